/-
  What is proved: NfaChecks: whether any machine of many ways is allowed is what the document's own reading says; one that is made of numbers is; so is one with one thing of it turned. For every argument.
-/
import Derived.Test.YtnpalannikpfoaaGNB
open Go Go.Am Go.Proofs
namespace Go.Proofs.Ytnpalannikpfoaa
set_option maxRecDepth 100000
theorem dA28 : (Try.prog.underlying 28).map isAggD = some true := by kernel_rfl
theorem dS28 : (Try.prog.info? 28).map (·.size) = some 5 := by kernel_rfl
theorem inB2_not (n s : Int) : inB2 n s = !(lackB n s) := by
  unfold inB2 lackB
  rw [Bool.eq_iff_iff]
  simp
def mS (n : Int) : List Int → Bool
  | [f, t, s] => !(inB2 n f) || !(inB2 n t) || decide (s < (1 : Int)) || decide (s > (31 : Int))
  | _ => false
def mF (n : Int) : List Int → Bool
  | [x, y] => !(inB2 n x) || !(inB2 n y)
  | _ => false
theorem mS_eq (n : Int) : mS n = pS n := by
  funext r
  match r with
  | [f, t, s] => simp only [mS, pS, lackS, inB2_not, Bool.not_not]
  | [] => rfl
  | [_] => rfl
  | [_, _] => rfl
  | _ :: _ :: _ :: _ :: _ => rfl
theorem mF_eq (n : Int) : mF n = pF n := by
  funext r
  match r with
  | [x, y] => simp only [mF, pF, lackF, inB2_not, Bool.not_not]
  | [] => rfl
  | [_] => rfl
  | _ :: _ :: _ :: _ => rfl
theorem rK24 : Try.f24.results = #[.tmp 2] := by kernel_rfl
theorem hS24_51 (B : Nat) : ∀ p ∈ ([(51, pick (Con Try.prog [] 51 (Fl g51)))] : List (FuncId × (List Value → Mem → Option (Value × Mem)))), SpecOk Try.prog [] B p.1 p.2 := (fun p hp => by simp only [List.mem_cons, List.not_mem_nil, or_false] at hp; rcases hp with rfl <;> first | exact Con.ok _)
theorem rd240_0_raw (b bb o m c i : Nat) (n st en : Int) (a2 : Option Addr) (m2 c2 : Nat) (f t s : Int) (M : Mem) (b1 : Nat) (M2 : Mem) (M10 : Mem) (M20 : Mem) (M33 : Mem) : oR Try.prog [] 40 Try.f24 (q24.loopAt 0) [(1, (pt b 0)), (3, (i64 (((i : Nat) : Int))))] M [ttL 5 (sli bb o m c), ttT 10, ttL 14 (sli bb o m c), ttT 18, ttL 20 (.agg ⟨[(i64 f), (i64 t), (i64 s)]⟩), ttV 22 (pt b1 0) M2, ttS 24 M10, ttL 26 (.agg ⟨[(i64 n), (i64 st), (i64 en), (sli bb o m c), (.slice a2 m2 c2)]⟩), ttL 30 (i64 f), ttV 32 (.bool (inB2 n f)) M20, ttF 37, ttL 38 (.agg ⟨[(i64 n), (i64 st), (i64 en), (sli bb o m c), (.slice a2 m2 c2)]⟩), ttF 39, ttF 41, ttL 42 (i64 t), ttF 43, ttV 44 (.bool (inB2 n t)) M33, ttF 45, ttF 48, ttF 51, ttF 53, ttL 54 (i64 s), ttF 55, ttF 58, ttT 61, ttT 63, ttT 65, ttT 68] [2] = some (.ret, [some (.bool false)], M33, [qL 25 b 3 M (sli bb o m c), qT (decide ((((i : Nat) : Int)) < (((m : Nat) : Int)))), qL 25 b 3 M (sli bb o m c), .q (.inb (((i : Nat) : Int)) m) (ansB true), qL 48 bb (o + (((i : Nat) : Int) : Int).toNat * 3) M (.agg ⟨[(i64 f), (i64 t), (i64 s)]⟩), .eq (aalloc Try.prog 48 M) (1, .val (pt b1 0), M2), qS 48 b1 0 (.agg ⟨[(i64 f), (i64 t), (i64 s)]⟩) M2 M10, qL 28 b 0 M10 (.agg ⟨[(i64 n), (i64 st), (i64 en), (sli bb o m c), (.slice a2 m2 c2)]⟩), qL 3 b1 0 M10 (i64 f), qC 51 [(.agg ⟨[(i64 n), (i64 st), (i64 en), (sli bb o m c), (.slice a2 m2 c2)]⟩), (i64 f)] M10 (.bool (inB2 n f)) M20, qF (!(inB2 n f)), qL 28 b 0 M20 (.agg ⟨[(i64 n), (i64 st), (i64 en), (sli bb o m c), (.slice a2 m2 c2)]⟩), qF (!(inB2 n f)), qF (!(inB2 n f)), qL 3 b1 1 M20 (i64 t), qF (!(inB2 n f)), qC 51 [(.agg ⟨[(i64 n), (i64 st), (i64 en), (sli bb o m c), (.slice a2 m2 c2)]⟩), (i64 t)] M20 (.bool (inB2 n t)) M33, qF (!(inB2 n f)), qF (!(inB2 n f)), qF (!(inB2 n t)), qF (!(inB2 n t)), qL 3 b1 2 M33 (i64 s), qF (!(inB2 n t)), qF (!(inB2 n t)), qT (decide (s < (1 : Int))), qT (decide (s < (1 : Int))), qT (decide (s < (1 : Int))), qT (decide (s < (1 : Int)))]) := by kernel_rfl
theorem rd240_0 (b bb o m c i : Nat) (n st en : Int) (a2 : Option Addr) (m2 c2 : Nat) (f t s : Int) {M : Mem} (hM : MemOk M) (hb : M.get b = some ⟨[i64 n, i64 st, i64 en, (sli bb o m c), (.slice a2 m2 c2)], 28, 5, 0, true⟩) (hld : aload Try.prog 48 ⟨bb, o + i * 3, none⟩ M = some (.agg ⟨[i64 f, i64 t, i64 s]⟩)) (cc0 : (decide ((((i : Nat) : Int)) < (((m : Nat) : Int)))) = true) (cc1 : (inB2 n f) = true) (cc2 : (inB2 n t) = true) (cc3 : (decide (s < (1 : Int))) = true) : ∃ T1 M', Rd Try.prog [] (q24.loopAt 0) Try.f24.ntmps (fr [(1, (pt b 0)), (3, (i64 (((i : Nat) : Int))))]) M .ret T1 M' ∧ [2].map T1.get = [some (.bool false)] ∧ Ext M M' ∧ MemOk M' := by
  obtain ⟨b1, M2, eb3, em4, g5, E6, hM7⟩ := new_t hM ⟨[(i64 0), (i64 0), (i64 0)], 48, 3, 0, true⟩
  have nb1 : M.next ≤ b1 := by rw [← eb3]; exact (Ext.refl M).next
  have dbb1 : b ≠ b1 := by have := Mem.lt_of_get hb; omega
  have g8 := E6.old hb
  have X9 := (Ext.refl M).trans E6
  obtain ⟨M10, q11, g12, kp13, X14, hM15, nx16⟩ := store_t (o := 0) (v := (.agg ⟨[(i64 f), (i64 t), (i64 s)]⟩)) (new := [(i64 f), (i64 t), (i64 s)]) X9 nb1 hM7 dS48 g5 rfl rfl (Nat.zero_le _) (Nat.le_of_ble_eq_true rfl) rfl
  replace g12 : M10.get b1 = some ⟨[(i64 f), (i64 t), (i64 s)], 48, 3, 0, true⟩ := g12
  have g17 := (kp13 _ dbb1).trans g8
  obtain ⟨w18, N19, M20, p21, l22, e23, E24, hM25, Q26, G27⟩ := call_t (P := Try.prog) (GL := []) (f := 51) hM15 (con51 n st en (some ⟨bb, o, none⟩) m c a2 m2 c2 f (MemOk.log hM15))
  have g28 := E24.old g17
  have g29 := E24.old g12
  have ew18 : w18 = (.bool (inB2 n f)) := (Option.some.inj Q26).symm
  subst ew18
  have X30 := X14.trans E24
  obtain ⟨w31, N32, M33, p34, l35, e36, E37, hM38, Q39, G40⟩ := call_t (P := Try.prog) (GL := []) (f := 51) hM25 (con51 n st en (some ⟨bb, o, none⟩) m c a2 m2 c2 t (MemOk.log hM25))
  have g41 := E37.old g28
  have g42 := E37.old g29
  have ew31 : w31 = (.bool (inB2 n t)) := (Option.some.inj Q39).symm
  subst ew31
  have X43 := X30.trans E37
  obtain ⟨T1, h1, h2⟩ := Rd.told noNumP mixedP (fun B => specsB_ok (k := []) (hS24_51 B) (fun p hp => by cases hp)) (fun _ _ => rfl) (rd240_0_raw b bb o m c i n st en a2 m2 c2 f t s M b1 M2 M10 M20 M33) (hk (lC dC25 hb rfl) (hk (bT cc0) (hk (lC dC25 hb rfl) (hk (q_inb (by omega) (by simp at cc0; omega)) (hk (q_ld (aload_ext (Ext.refl M) hld)) (hk (q_eq (by rw [← eb3, ← em4]; kernel_rfl) Nat.one_ne_zero) (hk (q_st q11) (hk (lA ⟨dA28, dS28⟩ g17 rfl) (hk (lC dC3 g12 rfl) (hk (q_call rfl p21 l22 e23) (hk (bF (by rw [cc1]; rfl)) (hk (lA ⟨dA28, dS28⟩ g28 rfl) (hk (bF (by rw [cc1]; rfl)) (hk (bF (by rw [cc1]; rfl)) (hk (lC dC3 g29 rfl) (hk (bF (by rw [cc1]; rfl)) (hk (q_call rfl p34 l35 e36) (hk (bF (by rw [cc1]; rfl)) (hk (bF (by rw [cc1]; rfl)) (hk (bF (by rw [cc2]; rfl)) (hk (bF (by rw [cc2]; rfl)) (hk (lC dC3 g42 rfl) (hk (bF (by rw [cc2]; rfl)) (hk (bF (by rw [cc2]; rfl)) (hk (bT cc3) (hk (bT cc3) (hk (bT cc3) (hk (bT cc3) hn))))))))))))))))))))))))))))
  exact ⟨T1, M33, h1, h2, X43, hM38⟩
theorem rd240_1_raw (b bb o m c i : Nat) (n st en : Int) (a2 : Option Addr) (m2 c2 : Nat) (f t s : Int) (M : Mem) (b1 : Nat) (M2 : Mem) (M10 : Mem) (M20 : Mem) (M33 : Mem) : oR Try.prog [] 40 Try.f24 (q24.loopAt 0) [(1, (pt b 0)), (3, (i64 (((i : Nat) : Int))))] M [ttL 5 (sli bb o m c), ttT 10, ttL 14 (sli bb o m c), ttT 18, ttL 20 (.agg ⟨[(i64 f), (i64 t), (i64 s)]⟩), ttV 22 (pt b1 0) M2, ttS 24 M10, ttL 26 (.agg ⟨[(i64 n), (i64 st), (i64 en), (sli bb o m c), (.slice a2 m2 c2)]⟩), ttL 30 (i64 f), ttV 32 (.bool (inB2 n f)) M20, ttF 37, ttL 38 (.agg ⟨[(i64 n), (i64 st), (i64 en), (sli bb o m c), (.slice a2 m2 c2)]⟩), ttF 39, ttF 41, ttL 42 (i64 t), ttF 43, ttV 44 (.bool (inB2 n t)) M33, ttF 45, ttF 48, ttF 51, ttF 53, ttL 54 (i64 s), ttF 55, ttF 58, ttF 61, ttF 63, ttL 64 (i64 s), ttF 65, ttF 68, ttT 69] [2] = some (.ret, [some (.bool false)], M33, [qL 25 b 3 M (sli bb o m c), qT (decide ((((i : Nat) : Int)) < (((m : Nat) : Int)))), qL 25 b 3 M (sli bb o m c), .q (.inb (((i : Nat) : Int)) m) (ansB true), qL 48 bb (o + (((i : Nat) : Int) : Int).toNat * 3) M (.agg ⟨[(i64 f), (i64 t), (i64 s)]⟩), .eq (aalloc Try.prog 48 M) (1, .val (pt b1 0), M2), qS 48 b1 0 (.agg ⟨[(i64 f), (i64 t), (i64 s)]⟩) M2 M10, qL 28 b 0 M10 (.agg ⟨[(i64 n), (i64 st), (i64 en), (sli bb o m c), (.slice a2 m2 c2)]⟩), qL 3 b1 0 M10 (i64 f), qC 51 [(.agg ⟨[(i64 n), (i64 st), (i64 en), (sli bb o m c), (.slice a2 m2 c2)]⟩), (i64 f)] M10 (.bool (inB2 n f)) M20, qF (!(inB2 n f)), qL 28 b 0 M20 (.agg ⟨[(i64 n), (i64 st), (i64 en), (sli bb o m c), (.slice a2 m2 c2)]⟩), qF (!(inB2 n f)), qF (!(inB2 n f)), qL 3 b1 1 M20 (i64 t), qF (!(inB2 n f)), qC 51 [(.agg ⟨[(i64 n), (i64 st), (i64 en), (sli bb o m c), (.slice a2 m2 c2)]⟩), (i64 t)] M20 (.bool (inB2 n t)) M33, qF (!(inB2 n f)), qF (!(inB2 n f)), qF (!(inB2 n t)), qF (!(inB2 n t)), qL 3 b1 2 M33 (i64 s), qF (!(inB2 n t)), qF (!(inB2 n t)), qF (decide (s < (1 : Int))), qF (decide (s < (1 : Int))), qL 3 b1 2 M33 (i64 s), qF (decide (s < (1 : Int))), qF (decide (s < (1 : Int))), qT (decide (s > (31 : Int)))]) := by kernel_rfl
theorem rd240_1 (b bb o m c i : Nat) (n st en : Int) (a2 : Option Addr) (m2 c2 : Nat) (f t s : Int) {M : Mem} (hM : MemOk M) (hb : M.get b = some ⟨[i64 n, i64 st, i64 en, (sli bb o m c), (.slice a2 m2 c2)], 28, 5, 0, true⟩) (hld : aload Try.prog 48 ⟨bb, o + i * 3, none⟩ M = some (.agg ⟨[i64 f, i64 t, i64 s]⟩)) (cc0 : (decide ((((i : Nat) : Int)) < (((m : Nat) : Int)))) = true) (cc1 : (inB2 n f) = true) (cc2 : (inB2 n t) = true) (cc3 : (decide (s < (1 : Int))) = false) (cc4 : (decide (s > (31 : Int))) = true) : ∃ T1 M', Rd Try.prog [] (q24.loopAt 0) Try.f24.ntmps (fr [(1, (pt b 0)), (3, (i64 (((i : Nat) : Int))))]) M .ret T1 M' ∧ [2].map T1.get = [some (.bool false)] ∧ Ext M M' ∧ MemOk M' := by
  obtain ⟨b1, M2, eb3, em4, g5, E6, hM7⟩ := new_t hM ⟨[(i64 0), (i64 0), (i64 0)], 48, 3, 0, true⟩
  have nb1 : M.next ≤ b1 := by rw [← eb3]; exact (Ext.refl M).next
  have dbb1 : b ≠ b1 := by have := Mem.lt_of_get hb; omega
  have g8 := E6.old hb
  have X9 := (Ext.refl M).trans E6
  obtain ⟨M10, q11, g12, kp13, X14, hM15, nx16⟩ := store_t (o := 0) (v := (.agg ⟨[(i64 f), (i64 t), (i64 s)]⟩)) (new := [(i64 f), (i64 t), (i64 s)]) X9 nb1 hM7 dS48 g5 rfl rfl (Nat.zero_le _) (Nat.le_of_ble_eq_true rfl) rfl
  replace g12 : M10.get b1 = some ⟨[(i64 f), (i64 t), (i64 s)], 48, 3, 0, true⟩ := g12
  have g17 := (kp13 _ dbb1).trans g8
  obtain ⟨w18, N19, M20, p21, l22, e23, E24, hM25, Q26, G27⟩ := call_t (P := Try.prog) (GL := []) (f := 51) hM15 (con51 n st en (some ⟨bb, o, none⟩) m c a2 m2 c2 f (MemOk.log hM15))
  have g28 := E24.old g17
  have g29 := E24.old g12
  have ew18 : w18 = (.bool (inB2 n f)) := (Option.some.inj Q26).symm
  subst ew18
  have X30 := X14.trans E24
  obtain ⟨w31, N32, M33, p34, l35, e36, E37, hM38, Q39, G40⟩ := call_t (P := Try.prog) (GL := []) (f := 51) hM25 (con51 n st en (some ⟨bb, o, none⟩) m c a2 m2 c2 t (MemOk.log hM25))
  have g41 := E37.old g28
  have g42 := E37.old g29
  have ew31 : w31 = (.bool (inB2 n t)) := (Option.some.inj Q39).symm
  subst ew31
  have X43 := X30.trans E37
  obtain ⟨T1, h1, h2⟩ := Rd.told noNumP mixedP (fun B => specsB_ok (k := []) (hS24_51 B) (fun p hp => by cases hp)) (fun _ _ => rfl) (rd240_1_raw b bb o m c i n st en a2 m2 c2 f t s M b1 M2 M10 M20 M33) (hk (lC dC25 hb rfl) (hk (bT cc0) (hk (lC dC25 hb rfl) (hk (q_inb (by omega) (by simp at cc0; omega)) (hk (q_ld (aload_ext (Ext.refl M) hld)) (hk (q_eq (by rw [← eb3, ← em4]; kernel_rfl) Nat.one_ne_zero) (hk (q_st q11) (hk (lA ⟨dA28, dS28⟩ g17 rfl) (hk (lC dC3 g12 rfl) (hk (q_call rfl p21 l22 e23) (hk (bF (by rw [cc1]; rfl)) (hk (lA ⟨dA28, dS28⟩ g28 rfl) (hk (bF (by rw [cc1]; rfl)) (hk (bF (by rw [cc1]; rfl)) (hk (lC dC3 g29 rfl) (hk (bF (by rw [cc1]; rfl)) (hk (q_call rfl p34 l35 e36) (hk (bF (by rw [cc1]; rfl)) (hk (bF (by rw [cc1]; rfl)) (hk (bF (by rw [cc2]; rfl)) (hk (bF (by rw [cc2]; rfl)) (hk (lC dC3 g42 rfl) (hk (bF (by rw [cc2]; rfl)) (hk (bF (by rw [cc2]; rfl)) (hk (bF cc3) (hk (bF cc3) (hk (lC dC3 g42 rfl) (hk (bF cc3) (hk (bF cc3) (hk (bT cc4) hn))))))))))))))))))))))))))))))
  exact ⟨T1, M33, h1, h2, X43, hM38⟩
theorem rd240_2_raw (b bb o m c i : Nat) (n st en : Int) (a2 : Option Addr) (m2 c2 : Nat) (f t s : Int) (M : Mem) (b1 : Nat) (M2 : Mem) (M10 : Mem) (M20 : Mem) (M33 : Mem) : oR Try.prog [] 40 Try.f24 (q24.loopAt 0) [(1, (pt b 0)), (3, (i64 (((i : Nat) : Int))))] M [ttL 5 (sli bb o m c), ttT 10, ttL 14 (sli bb o m c), ttT 18, ttL 20 (.agg ⟨[(i64 f), (i64 t), (i64 s)]⟩), ttV 22 (pt b1 0) M2, ttS 24 M10, ttL 26 (.agg ⟨[(i64 n), (i64 st), (i64 en), (sli bb o m c), (.slice a2 m2 c2)]⟩), ttL 30 (i64 f), ttV 32 (.bool (inB2 n f)) M20, ttF 37, ttL 38 (.agg ⟨[(i64 n), (i64 st), (i64 en), (sli bb o m c), (.slice a2 m2 c2)]⟩), ttF 39, ttF 41, ttL 42 (i64 t), ttF 43, ttV 44 (.bool (inB2 n t)) M33, ttF 45, ttF 48, ttF 51, ttF 53, ttL 54 (i64 s), ttF 55, ttF 58, ttF 61, ttF 63, ttL 64 (i64 s), ttF 65, ttF 68, ttF 69] [1, 3] = some (.normal, [some (pt b 0), some (i64 (IntKind.wrap .i64 ((((i : Nat) : Int)) + (1 : Int))))], M33, [qL 25 b 3 M (sli bb o m c), qT (decide ((((i : Nat) : Int)) < (((m : Nat) : Int)))), qL 25 b 3 M (sli bb o m c), .q (.inb (((i : Nat) : Int)) m) (ansB true), qL 48 bb (o + (((i : Nat) : Int) : Int).toNat * 3) M (.agg ⟨[(i64 f), (i64 t), (i64 s)]⟩), .eq (aalloc Try.prog 48 M) (1, .val (pt b1 0), M2), qS 48 b1 0 (.agg ⟨[(i64 f), (i64 t), (i64 s)]⟩) M2 M10, qL 28 b 0 M10 (.agg ⟨[(i64 n), (i64 st), (i64 en), (sli bb o m c), (.slice a2 m2 c2)]⟩), qL 3 b1 0 M10 (i64 f), qC 51 [(.agg ⟨[(i64 n), (i64 st), (i64 en), (sli bb o m c), (.slice a2 m2 c2)]⟩), (i64 f)] M10 (.bool (inB2 n f)) M20, qF (!(inB2 n f)), qL 28 b 0 M20 (.agg ⟨[(i64 n), (i64 st), (i64 en), (sli bb o m c), (.slice a2 m2 c2)]⟩), qF (!(inB2 n f)), qF (!(inB2 n f)), qL 3 b1 1 M20 (i64 t), qF (!(inB2 n f)), qC 51 [(.agg ⟨[(i64 n), (i64 st), (i64 en), (sli bb o m c), (.slice a2 m2 c2)]⟩), (i64 t)] M20 (.bool (inB2 n t)) M33, qF (!(inB2 n f)), qF (!(inB2 n f)), qF (!(inB2 n t)), qF (!(inB2 n t)), qL 3 b1 2 M33 (i64 s), qF (!(inB2 n t)), qF (!(inB2 n t)), qF (decide (s < (1 : Int))), qF (decide (s < (1 : Int))), qL 3 b1 2 M33 (i64 s), qF (decide (s < (1 : Int))), qF (decide (s < (1 : Int))), qF (decide (s > (31 : Int)))]) := by kernel_rfl
theorem rd240_2 (b bb o m c i : Nat) (n st en : Int) (a2 : Option Addr) (m2 c2 : Nat) (f t s : Int) {M : Mem} (hM : MemOk M) (hb : M.get b = some ⟨[i64 n, i64 st, i64 en, (sli bb o m c), (.slice a2 m2 c2)], 28, 5, 0, true⟩) (hld : aload Try.prog 48 ⟨bb, o + i * 3, none⟩ M = some (.agg ⟨[i64 f, i64 t, i64 s]⟩)) (cc0 : (decide ((((i : Nat) : Int)) < (((m : Nat) : Int)))) = true) (cc1 : (inB2 n f) = true) (cc2 : (inB2 n t) = true) (cc3 : (decide (s < (1 : Int))) = false) (cc4 : (decide (s > (31 : Int))) = false) : ∃ T1 M', Rd Try.prog [] (q24.loopAt 0) Try.f24.ntmps (fr [(1, (pt b 0)), (3, (i64 (((i : Nat) : Int))))]) M .normal T1 M' ∧ [1, 3].map T1.get = [some (pt b 0), some (i64 (IntKind.wrap .i64 ((((i : Nat) : Int)) + (1 : Int))))] ∧ Ext M M' ∧ MemOk M' := by
  obtain ⟨b1, M2, eb3, em4, g5, E6, hM7⟩ := new_t hM ⟨[(i64 0), (i64 0), (i64 0)], 48, 3, 0, true⟩
  have nb1 : M.next ≤ b1 := by rw [← eb3]; exact (Ext.refl M).next
  have dbb1 : b ≠ b1 := by have := Mem.lt_of_get hb; omega
  have g8 := E6.old hb
  have X9 := (Ext.refl M).trans E6
  obtain ⟨M10, q11, g12, kp13, X14, hM15, nx16⟩ := store_t (o := 0) (v := (.agg ⟨[(i64 f), (i64 t), (i64 s)]⟩)) (new := [(i64 f), (i64 t), (i64 s)]) X9 nb1 hM7 dS48 g5 rfl rfl (Nat.zero_le _) (Nat.le_of_ble_eq_true rfl) rfl
  replace g12 : M10.get b1 = some ⟨[(i64 f), (i64 t), (i64 s)], 48, 3, 0, true⟩ := g12
  have g17 := (kp13 _ dbb1).trans g8
  obtain ⟨w18, N19, M20, p21, l22, e23, E24, hM25, Q26, G27⟩ := call_t (P := Try.prog) (GL := []) (f := 51) hM15 (con51 n st en (some ⟨bb, o, none⟩) m c a2 m2 c2 f (MemOk.log hM15))
  have g28 := E24.old g17
  have g29 := E24.old g12
  have ew18 : w18 = (.bool (inB2 n f)) := (Option.some.inj Q26).symm
  subst ew18
  have X30 := X14.trans E24
  obtain ⟨w31, N32, M33, p34, l35, e36, E37, hM38, Q39, G40⟩ := call_t (P := Try.prog) (GL := []) (f := 51) hM25 (con51 n st en (some ⟨bb, o, none⟩) m c a2 m2 c2 t (MemOk.log hM25))
  have g41 := E37.old g28
  have g42 := E37.old g29
  have ew31 : w31 = (.bool (inB2 n t)) := (Option.some.inj Q39).symm
  subst ew31
  have X43 := X30.trans E37
  obtain ⟨T1, h1, h2⟩ := Rd.told noNumP mixedP (fun B => specsB_ok (k := []) (hS24_51 B) (fun p hp => by cases hp)) (fun _ _ => rfl) (rd240_2_raw b bb o m c i n st en a2 m2 c2 f t s M b1 M2 M10 M20 M33) (hk (lC dC25 hb rfl) (hk (bT cc0) (hk (lC dC25 hb rfl) (hk (q_inb (by omega) (by simp at cc0; omega)) (hk (q_ld (aload_ext (Ext.refl M) hld)) (hk (q_eq (by rw [← eb3, ← em4]; kernel_rfl) Nat.one_ne_zero) (hk (q_st q11) (hk (lA ⟨dA28, dS28⟩ g17 rfl) (hk (lC dC3 g12 rfl) (hk (q_call rfl p21 l22 e23) (hk (bF (by rw [cc1]; rfl)) (hk (lA ⟨dA28, dS28⟩ g28 rfl) (hk (bF (by rw [cc1]; rfl)) (hk (bF (by rw [cc1]; rfl)) (hk (lC dC3 g29 rfl) (hk (bF (by rw [cc1]; rfl)) (hk (q_call rfl p34 l35 e36) (hk (bF (by rw [cc1]; rfl)) (hk (bF (by rw [cc1]; rfl)) (hk (bF (by rw [cc2]; rfl)) (hk (bF (by rw [cc2]; rfl)) (hk (lC dC3 g42 rfl) (hk (bF (by rw [cc2]; rfl)) (hk (bF (by rw [cc2]; rfl)) (hk (bF cc3) (hk (bF cc3) (hk (lC dC3 g42 rfl) (hk (bF cc3) (hk (bF cc3) (hk (bF cc4) hn))))))))))))))))))))))))))))))
  exact ⟨T1, M33, h1, h2, X43, hM38⟩
theorem rd240_3_raw (b bb o m c i : Nat) (n st en : Int) (a2 : Option Addr) (m2 c2 : Nat) (f t s : Int) (M : Mem) (b1 : Nat) (M2 : Mem) (M10 : Mem) (M20 : Mem) (M33 : Mem) : oR Try.prog [] 40 Try.f24 (q24.loopAt 0) [(1, (pt b 0)), (3, (i64 (((i : Nat) : Int))))] M [ttL 5 (sli bb o m c), ttT 10, ttL 14 (sli bb o m c), ttT 18, ttL 20 (.agg ⟨[(i64 f), (i64 t), (i64 s)]⟩), ttV 22 (pt b1 0) M2, ttS 24 M10, ttL 26 (.agg ⟨[(i64 n), (i64 st), (i64 en), (sli bb o m c), (.slice a2 m2 c2)]⟩), ttL 30 (i64 f), ttV 32 (.bool (inB2 n f)) M20, ttF 37, ttL 38 (.agg ⟨[(i64 n), (i64 st), (i64 en), (sli bb o m c), (.slice a2 m2 c2)]⟩), ttF 39, ttF 41, ttL 42 (i64 t), ttF 43, ttV 44 (.bool (inB2 n t)) M33, ttF 45, ttF 48, ttT 51, ttT 53, ttT 55, ttT 58] [2] = some (.ret, [some (.bool false)], M33, [qL 25 b 3 M (sli bb o m c), qT (decide ((((i : Nat) : Int)) < (((m : Nat) : Int)))), qL 25 b 3 M (sli bb o m c), .q (.inb (((i : Nat) : Int)) m) (ansB true), qL 48 bb (o + (((i : Nat) : Int) : Int).toNat * 3) M (.agg ⟨[(i64 f), (i64 t), (i64 s)]⟩), .eq (aalloc Try.prog 48 M) (1, .val (pt b1 0), M2), qS 48 b1 0 (.agg ⟨[(i64 f), (i64 t), (i64 s)]⟩) M2 M10, qL 28 b 0 M10 (.agg ⟨[(i64 n), (i64 st), (i64 en), (sli bb o m c), (.slice a2 m2 c2)]⟩), qL 3 b1 0 M10 (i64 f), qC 51 [(.agg ⟨[(i64 n), (i64 st), (i64 en), (sli bb o m c), (.slice a2 m2 c2)]⟩), (i64 f)] M10 (.bool (inB2 n f)) M20, qF (!(inB2 n f)), qL 28 b 0 M20 (.agg ⟨[(i64 n), (i64 st), (i64 en), (sli bb o m c), (.slice a2 m2 c2)]⟩), qF (!(inB2 n f)), qF (!(inB2 n f)), qL 3 b1 1 M20 (i64 t), qF (!(inB2 n f)), qC 51 [(.agg ⟨[(i64 n), (i64 st), (i64 en), (sli bb o m c), (.slice a2 m2 c2)]⟩), (i64 t)] M20 (.bool (inB2 n t)) M33, qF (!(inB2 n f)), qF (!(inB2 n f)), qT (!(inB2 n t)), qT (!(inB2 n t)), qT (!(inB2 n t)), qT (!(inB2 n t))]) := by kernel_rfl
theorem rd240_3 (b bb o m c i : Nat) (n st en : Int) (a2 : Option Addr) (m2 c2 : Nat) (f t s : Int) {M : Mem} (hM : MemOk M) (hb : M.get b = some ⟨[i64 n, i64 st, i64 en, (sli bb o m c), (.slice a2 m2 c2)], 28, 5, 0, true⟩) (hld : aload Try.prog 48 ⟨bb, o + i * 3, none⟩ M = some (.agg ⟨[i64 f, i64 t, i64 s]⟩)) (cc0 : (decide ((((i : Nat) : Int)) < (((m : Nat) : Int)))) = true) (cc1 : (inB2 n f) = true) (cc2 : (inB2 n t) = false) : ∃ T1 M', Rd Try.prog [] (q24.loopAt 0) Try.f24.ntmps (fr [(1, (pt b 0)), (3, (i64 (((i : Nat) : Int))))]) M .ret T1 M' ∧ [2].map T1.get = [some (.bool false)] ∧ Ext M M' ∧ MemOk M' := by
  obtain ⟨b1, M2, eb3, em4, g5, E6, hM7⟩ := new_t hM ⟨[(i64 0), (i64 0), (i64 0)], 48, 3, 0, true⟩
  have nb1 : M.next ≤ b1 := by rw [← eb3]; exact (Ext.refl M).next
  have dbb1 : b ≠ b1 := by have := Mem.lt_of_get hb; omega
  have g8 := E6.old hb
  have X9 := (Ext.refl M).trans E6
  obtain ⟨M10, q11, g12, kp13, X14, hM15, nx16⟩ := store_t (o := 0) (v := (.agg ⟨[(i64 f), (i64 t), (i64 s)]⟩)) (new := [(i64 f), (i64 t), (i64 s)]) X9 nb1 hM7 dS48 g5 rfl rfl (Nat.zero_le _) (Nat.le_of_ble_eq_true rfl) rfl
  replace g12 : M10.get b1 = some ⟨[(i64 f), (i64 t), (i64 s)], 48, 3, 0, true⟩ := g12
  have g17 := (kp13 _ dbb1).trans g8
  obtain ⟨w18, N19, M20, p21, l22, e23, E24, hM25, Q26, G27⟩ := call_t (P := Try.prog) (GL := []) (f := 51) hM15 (con51 n st en (some ⟨bb, o, none⟩) m c a2 m2 c2 f (MemOk.log hM15))
  have g28 := E24.old g17
  have g29 := E24.old g12
  have ew18 : w18 = (.bool (inB2 n f)) := (Option.some.inj Q26).symm
  subst ew18
  have X30 := X14.trans E24
  obtain ⟨w31, N32, M33, p34, l35, e36, E37, hM38, Q39, G40⟩ := call_t (P := Try.prog) (GL := []) (f := 51) hM25 (con51 n st en (some ⟨bb, o, none⟩) m c a2 m2 c2 t (MemOk.log hM25))
  have g41 := E37.old g28
  have g42 := E37.old g29
  have ew31 : w31 = (.bool (inB2 n t)) := (Option.some.inj Q39).symm
  subst ew31
  have X43 := X30.trans E37
  obtain ⟨T1, h1, h2⟩ := Rd.told noNumP mixedP (fun B => specsB_ok (k := []) (hS24_51 B) (fun p hp => by cases hp)) (fun _ _ => rfl) (rd240_3_raw b bb o m c i n st en a2 m2 c2 f t s M b1 M2 M10 M20 M33) (hk (lC dC25 hb rfl) (hk (bT cc0) (hk (lC dC25 hb rfl) (hk (q_inb (by omega) (by simp at cc0; omega)) (hk (q_ld (aload_ext (Ext.refl M) hld)) (hk (q_eq (by rw [← eb3, ← em4]; kernel_rfl) Nat.one_ne_zero) (hk (q_st q11) (hk (lA ⟨dA28, dS28⟩ g17 rfl) (hk (lC dC3 g12 rfl) (hk (q_call rfl p21 l22 e23) (hk (bF (by rw [cc1]; rfl)) (hk (lA ⟨dA28, dS28⟩ g28 rfl) (hk (bF (by rw [cc1]; rfl)) (hk (bF (by rw [cc1]; rfl)) (hk (lC dC3 g29 rfl) (hk (bF (by rw [cc1]; rfl)) (hk (q_call rfl p34 l35 e36) (hk (bF (by rw [cc1]; rfl)) (hk (bF (by rw [cc1]; rfl)) (hk (bT (by rw [cc2]; rfl)) (hk (bT (by rw [cc2]; rfl)) (hk (bT (by rw [cc2]; rfl)) (hk (bT (by rw [cc2]; rfl)) hn)))))))))))))))))))))))
  exact ⟨T1, M33, h1, h2, X43, hM38⟩
theorem rd240_4_raw (b bb o m c i : Nat) (n st en : Int) (a2 : Option Addr) (m2 c2 : Nat) (f t s : Int) (M : Mem) (b1 : Nat) (M2 : Mem) (M10 : Mem) (M20 : Mem) : oR Try.prog [] 40 Try.f24 (q24.loopAt 0) [(1, (pt b 0)), (3, (i64 (((i : Nat) : Int))))] M [ttL 5 (sli bb o m c), ttT 10, ttL 14 (sli bb o m c), ttT 18, ttL 20 (.agg ⟨[(i64 f), (i64 t), (i64 s)]⟩), ttV 22 (pt b1 0) M2, ttS 24 M10, ttL 26 (.agg ⟨[(i64 n), (i64 st), (i64 en), (sli bb o m c), (.slice a2 m2 c2)]⟩), ttL 30 (i64 f), ttV 32 (.bool (inB2 n f)) M20, ttT 37, ttT 39, ttT 41, ttT 43, ttT 45, ttT 48] [2] = some (.ret, [some (.bool false)], M20, [qL 25 b 3 M (sli bb o m c), qT (decide ((((i : Nat) : Int)) < (((m : Nat) : Int)))), qL 25 b 3 M (sli bb o m c), .q (.inb (((i : Nat) : Int)) m) (ansB true), qL 48 bb (o + (((i : Nat) : Int) : Int).toNat * 3) M (.agg ⟨[(i64 f), (i64 t), (i64 s)]⟩), .eq (aalloc Try.prog 48 M) (1, .val (pt b1 0), M2), qS 48 b1 0 (.agg ⟨[(i64 f), (i64 t), (i64 s)]⟩) M2 M10, qL 28 b 0 M10 (.agg ⟨[(i64 n), (i64 st), (i64 en), (sli bb o m c), (.slice a2 m2 c2)]⟩), qL 3 b1 0 M10 (i64 f), qC 51 [(.agg ⟨[(i64 n), (i64 st), (i64 en), (sli bb o m c), (.slice a2 m2 c2)]⟩), (i64 f)] M10 (.bool (inB2 n f)) M20, qT (!(inB2 n f)), qT (!(inB2 n f)), qT (!(inB2 n f)), qT (!(inB2 n f)), qT (!(inB2 n f)), qT (!(inB2 n f))]) := by kernel_rfl
theorem rd240_4 (b bb o m c i : Nat) (n st en : Int) (a2 : Option Addr) (m2 c2 : Nat) (f t s : Int) {M : Mem} (hM : MemOk M) (hb : M.get b = some ⟨[i64 n, i64 st, i64 en, (sli bb o m c), (.slice a2 m2 c2)], 28, 5, 0, true⟩) (hld : aload Try.prog 48 ⟨bb, o + i * 3, none⟩ M = some (.agg ⟨[i64 f, i64 t, i64 s]⟩)) (cc0 : (decide ((((i : Nat) : Int)) < (((m : Nat) : Int)))) = true) (cc1 : (inB2 n f) = false) : ∃ T1 M', Rd Try.prog [] (q24.loopAt 0) Try.f24.ntmps (fr [(1, (pt b 0)), (3, (i64 (((i : Nat) : Int))))]) M .ret T1 M' ∧ [2].map T1.get = [some (.bool false)] ∧ Ext M M' ∧ MemOk M' := by
  obtain ⟨b1, M2, eb3, em4, g5, E6, hM7⟩ := new_t hM ⟨[(i64 0), (i64 0), (i64 0)], 48, 3, 0, true⟩
  have nb1 : M.next ≤ b1 := by rw [← eb3]; exact (Ext.refl M).next
  have dbb1 : b ≠ b1 := by have := Mem.lt_of_get hb; omega
  have g8 := E6.old hb
  have X9 := (Ext.refl M).trans E6
  obtain ⟨M10, q11, g12, kp13, X14, hM15, nx16⟩ := store_t (o := 0) (v := (.agg ⟨[(i64 f), (i64 t), (i64 s)]⟩)) (new := [(i64 f), (i64 t), (i64 s)]) X9 nb1 hM7 dS48 g5 rfl rfl (Nat.zero_le _) (Nat.le_of_ble_eq_true rfl) rfl
  replace g12 : M10.get b1 = some ⟨[(i64 f), (i64 t), (i64 s)], 48, 3, 0, true⟩ := g12
  have g17 := (kp13 _ dbb1).trans g8
  obtain ⟨w18, N19, M20, p21, l22, e23, E24, hM25, Q26, G27⟩ := call_t (P := Try.prog) (GL := []) (f := 51) hM15 (con51 n st en (some ⟨bb, o, none⟩) m c a2 m2 c2 f (MemOk.log hM15))
  have g28 := E24.old g17
  have g29 := E24.old g12
  have ew18 : w18 = (.bool (inB2 n f)) := (Option.some.inj Q26).symm
  subst ew18
  have X30 := X14.trans E24
  obtain ⟨T1, h1, h2⟩ := Rd.told noNumP mixedP (fun B => specsB_ok (k := []) (hS24_51 B) (fun p hp => by cases hp)) (fun _ _ => rfl) (rd240_4_raw b bb o m c i n st en a2 m2 c2 f t s M b1 M2 M10 M20) (hk (lC dC25 hb rfl) (hk (bT cc0) (hk (lC dC25 hb rfl) (hk (q_inb (by omega) (by simp at cc0; omega)) (hk (q_ld (aload_ext (Ext.refl M) hld)) (hk (q_eq (by rw [← eb3, ← em4]; kernel_rfl) Nat.one_ne_zero) (hk (q_st q11) (hk (lA ⟨dA28, dS28⟩ g17 rfl) (hk (lC dC3 g12 rfl) (hk (q_call rfl p21 l22 e23) (hk (bT (by rw [cc1]; rfl)) (hk (bT (by rw [cc1]; rfl)) (hk (bT (by rw [cc1]; rfl)) (hk (bT (by rw [cc1]; rfl)) (hk (bT (by rw [cc1]; rfl)) (hk (bT (by rw [cc1]; rfl)) hn))))))))))))))))
  exact ⟨T1, M20, h1, h2, X30, hM25⟩
theorem rd240x_raw (b : Nat) (a : Option Addr) (m c i : Nat) (_ _ _ : Int) (_ : Option Addr) (_ _ : Nat) (M : Mem)  : oR Try.prog [] 40 Try.f24 (q24.loopAt 0) [(1, (pt b 0)), (3, (i64 (((i : Nat) : Int))))] M [ttL 5 (.slice a m c), ttT 7, ttF 10] [1] = some ((.exit 0), [some (pt b 0)], M, [qL 25 b 3 M (.slice a m c), .ln a m c, qF (decide ((((i : Nat) : Int)) < (((m : Nat) : Int))))]) := by kernel_rfl
theorem rd240x (b : Nat) (a : Option Addr) (m c i : Nat) (n st en : Int) (a2 : Option Addr) (m2 c2 : Nat) {M : Mem} (hM : MemOk M) (hb : M.get b = some ⟨[i64 n, i64 st, i64 en, (.slice a m c), (.slice a2 m2 c2)], 28, 5, 0, true⟩) (hln : a.isNone = true → m = 0 ∧ c = 0) (cc0 : (decide ((((i : Nat) : Int)) < (((m : Nat) : Int)))) = false) : ∃ T1 M', Rd Try.prog [] (q24.loopAt 0) Try.f24.ntmps (fr [(1, (pt b 0)), (3, (i64 (((i : Nat) : Int))))]) M (.exit 0) T1 M' ∧ [1].map T1.get = [some (pt b 0)] ∧ Ext M M' ∧ MemOk M' := by
  obtain ⟨T1, h1, h2⟩ := Rd.told noNumP mixedP (specs_none Try.prog) (fun _ _ => rfl) (rd240x_raw b a m c i n st en a2 m2 c2 M ) (hk (lC dC25 hb rfl) (hk (lN hln) (hk (bF cc0) hn)))
  exact ⟨T1, M, h1, h2, (Ext.refl M), hM⟩
theorem rd240n (b bb o m c i : Nat) (n st en : Int) (a2 : Option Addr) (m2 c2 : Nat) (f t s : Int) {M : Mem} (hM : MemOk M) (hb : M.get b = some ⟨[i64 n, i64 st, i64 en, (sli bb o m c), (.slice a2 m2 c2)], 28, 5, 0, true⟩) (hld : aload Try.prog 48 ⟨bb, o + i * 3, none⟩ M = some (.agg ⟨[i64 f, i64 t, i64 s]⟩)) (cc0 : (decide (((i : Nat) : Int) < ((m : Nat) : Int))) = true) (hq : mS n [f, t, s] = false) : ∃ T1 M', Rd Try.prog [] (q24.loopAt 0) Try.f24.ntmps (fr [(1, (pt b 0)), (3, (i64 (((i : Nat) : Int))))]) M .normal T1 M' ∧ [1, 3].map T1.get = [some (pt b 0), some (i64 (IntKind.wrap .i64 (((i : Nat) : Int) + (1 : Int))))] ∧ Ext M M' ∧ MemOk M' := by
  cases cc1 : (inB2 n f) with
  | true =>
    cases cc2 : (inB2 n t) with
    | true =>
      cases cc3 : (decide (s < (1 : Int))) with
      | true =>
        simp [mS, cc1, cc2, cc3] at hq
      | false =>
        cases cc4 : (decide (s > (31 : Int))) with
        | true =>
          simp [mS, cc1, cc2, cc3, cc4] at hq
        | false =>
          exact rd240_2 b bb o m c i n st en a2 m2 c2 f t s hM hb hld cc0 cc1 cc2 cc3 cc4
    | false =>
      simp [mS, cc1, cc2] at hq
  | false =>
    simp [mS, cc1] at hq
theorem rd240r (b bb o m c i : Nat) (n st en : Int) (a2 : Option Addr) (m2 c2 : Nat) (f t s : Int) {M : Mem} (hM : MemOk M) (hb : M.get b = some ⟨[i64 n, i64 st, i64 en, (sli bb o m c), (.slice a2 m2 c2)], 28, 5, 0, true⟩) (hld : aload Try.prog 48 ⟨bb, o + i * 3, none⟩ M = some (.agg ⟨[i64 f, i64 t, i64 s]⟩)) (cc0 : (decide (((i : Nat) : Int) < ((m : Nat) : Int))) = true) (hq : mS n [f, t, s] = true) : ∃ T1 M', Rd Try.prog [] (q24.loopAt 0) Try.f24.ntmps (fr [(1, (pt b 0)), (3, (i64 (((i : Nat) : Int))))]) M .ret T1 M' ∧ [2].map T1.get = [some (.bool false)] ∧ Ext M M' ∧ MemOk M' := by
  cases cc1 : (inB2 n f) with
  | true =>
    cases cc2 : (inB2 n t) with
    | true =>
      cases cc3 : (decide (s < (1 : Int))) with
      | true =>
        exact rd240_0 b bb o m c i n st en a2 m2 c2 f t s hM hb hld cc0 cc1 cc2 cc3
      | false =>
        cases cc4 : (decide (s > (31 : Int))) with
        | true =>
          exact rd240_1 b bb o m c i n st en a2 m2 c2 f t s hM hb hld cc0 cc1 cc2 cc3 cc4
        | false =>
          simp [mS, cc1, cc2, cc3, cc4] at hq
    | false =>
      exact rd240_3 b bb o m c i n st en a2 m2 c2 f t s hM hb hld cc0 cc1 cc2
  | false =>
    exact rd240_4 b bb o m c i n st en a2 m2 c2 f t s hM hb hld cc0 cc1
theorem loop240 {l : List (List Int)} {a : Option Addr} {c : Nat} (b : Nat) (n st en : Int) (a2 : Option Addr) (m2 c2 : Nat) : ∀ (k i : Nat), i + k = l.length → ∀ {M : Mem}, MemOk M → FlatAt 3 M (.slice a l.length c) l → (M.get b = some ⟨[i64 n, i64 st, i64 en, (.slice a l.length c), (.slice a2 m2 c2)], 28, 5, 0, true⟩) →
    ∃ M' e T', Ext M M' ∧ LoopR Try.prog [] (q24.loopAt 0) Try.f24.ntmps (fr [(1, (pt b 0)), (3, i64 ((i : Nat) : Int))]) M e T' M' ∧
      (((l.drop i).any (mS n) = false ∧ e = .exit 0 ∧ T' = fr [(1, (pt b 0))]) ∨ ((l.drop i).any (mS n) = true ∧ e = .ret ∧ T' = fr [(2, .bool false)])) := by
  intro k
  induction k with
  | zero =>
    intro i hi M hM hs hb
    obtain ⟨T1, M1, h1, h2, h3, h4⟩ := rd240x b a l.length c i n st en a2 m2 c2 hM hb hs.ln (by simp; omega)
    refine ⟨M1, _, fr [(1, (pt b 0))], h3, LoopR.stop h1 (by simp) (TSub.fr (l := [(1, (pt b 0))]) h2), .inl ⟨?_, rfl, rfl⟩⟩
    rw [List.drop_eq_nil_of_le (by omega)]; rfl
  | succ k ih2 =>
    intro i hi M hM hs hb
    have hlen := hs.len
    have hlt : i < l.length := by omega
    rcases id hs.at_ with ⟨_, _, h0⟩ | ⟨bb, o, c', blk, pre, post, h1, h2⟩
    · omega
    cases h1
    obtain ⟨r, ht⟩ : ∃ r, l[i]? = some r := ⟨l[i], List.getElem?_eq_getElem hlt⟩
    have hdrop : l.drop i = r :: l.drop (i + 1) := by
      rw [List.drop_eq_getElem_cons hlt]
      rw [List.getElem?_eq_getElem hlt] at ht
      rw [Option.some.inj ht]
    have hld := load_flat (P := Try.prog) (ty := 48) hs ht dA48 dS48
    obtain ⟨f, t, s, rfl⟩ := three_of (hs.wide _ (List.mem_of_getElem? ht))
    have hc : decide ((((i : Nat) : Int)) < (((l.length : Nat) : Int))) = true := by simp; omega
    cases hq : mS n [f, t, s] with
    | false =>
      obtain ⟨T1, M1, h1, h2, h3, h4⟩ := rd240n b bb o l.length c i n st en a2 m2 c2 f t s hM hb hld hc hq
      rw [wrap_succ (by omega)] at h2
      obtain ⟨M2, e, T', q1, q2, q3⟩ := ih2 (i + 1) (by omega) h4 (hs.Ext h3) (h3.old hb)
      refine ⟨M2, e, T', h3.trans q1, LoopR.step h1 (TSub.fr (l := [(1, (pt b 0)), (3, i64 ((i + 1 : Nat) : Int))]) h2) q2, ?_⟩
      rw [hdrop]
      simp only [List.any_cons, hq, Bool.false_or]
      exact q3
    | true =>
      obtain ⟨T1, M1, h1, h2, h3, h4⟩ := rd240r b bb o l.length c i n st en a2 m2 c2 f t s hM hb hld hc hq
      refine ⟨M1, _, _, h3, LoopR.stop h1 (by simp) (TSub.fr (l := [(2, .bool false)]) h2), .inr ⟨?_, rfl, rfl⟩⟩
      rw [hdrop]
      simp only [List.any_cons, hq, Bool.true_or]
theorem loop240_t {l : List (List Int)} {a : Option Addr} {c : Nat} (b : Nat) (n st en : Int) (a2 : Option Addr) (m2 c2 : Nat) {M : Mem} (hM : MemOk M) (hs : FlatAt 3 M (.slice a l.length c) l) (hb : M.get b = some ⟨[i64 n, i64 st, i64 en, (.slice a l.length c), (.slice a2 m2 c2)], 28, 5, 0, true⟩) (h : l.any (mS n) = false) :
    ∃ M', LoopR Try.prog [] (q24.loopAt 0) Try.f24.ntmps (fr [(1, (pt b 0)), (3, i64 0)]) M (.exit 0) (fr [(1, (pt b 0))]) M' ∧ Ext M M' ∧ MemOk M' := by
  obtain ⟨M', e, T', h1, h2, h3⟩ := loop240 b n st en a2 m2 c2 l.length 0 (by omega) hM hs hb
  rw [List.drop_zero, h] at h3
  rcases h3 with ⟨_, rfl, rfl⟩ | ⟨h3, _⟩
  · exact ⟨M', h2, h1, hM.ext h1⟩
  · cases h3
theorem loop240_f {l : List (List Int)} {a : Option Addr} {c : Nat} (b : Nat) (n st en : Int) (a2 : Option Addr) (m2 c2 : Nat) {M : Mem} (hM : MemOk M) (hs : FlatAt 3 M (.slice a l.length c) l) (hb : M.get b = some ⟨[i64 n, i64 st, i64 en, (.slice a l.length c), (.slice a2 m2 c2)], 28, 5, 0, true⟩) (h : l.any (mS n) = true) :
    ∃ M', LoopR Try.prog [] (q24.loopAt 0) Try.f24.ntmps (fr [(1, (pt b 0)), (3, i64 0)]) M .ret (fr [(2, .bool false)]) M' ∧ Ext M M' ∧ MemOk M' := by
  obtain ⟨M', e, T', h1, h2, h3⟩ := loop240 b n st en a2 m2 c2 l.length 0 (by omega) hM hs hb
  rw [List.drop_zero, h] at h3
  rcases h3 with ⟨h3, _⟩ | ⟨_, rfl, rfl⟩
  · cases h3
  · exact ⟨M', h2, h1, hM.ext h1⟩
theorem rd242_0_raw (b bb o m c i : Nat) (n st en : Int) (a1 : Option Addr) (m1 c1 : Nat) (x y : Int) (M : Mem) (M3 : Mem) (M15 : Mem) : oR Try.prog [] 40 Try.f24 (q24.loopAt 2) [(1, (pt b 0)), (5, (i64 (((i : Nat) : Int))))] M [ttL 5 (sli bb o m c), ttT 10, ttL 12 (.agg ⟨[(i64 n), (i64 st), (i64 en), (.slice a1 m1 c1), (sli bb o m c)]⟩), ttL 16 (sli bb o m c), ttT 20, ttL 24 (i64 x), ttV 26 (.bool (inB2 n x)) M3, ttF 31, ttL 32 (.agg ⟨[(i64 n), (i64 st), (i64 en), (.slice a1 m1 c1), (sli bb o m c)]⟩), ttF 33, ttF 35, ttL 36 (sli bb o m c), ttF 37, ttF 39, ttT 40, ttF 41, ttF 43, ttL 44 (i64 y), ttF 45, ttV 46 (.bool (inB2 n y)) M15, ttF 47, ttF 50, ttF 51] [1, 5] = some (.normal, [some (pt b 0), some (i64 (IntKind.wrap .i64 ((((i : Nat) : Int)) + (1 : Int))))], M15, [qL 26 b 4 M (sli bb o m c), qT (decide ((((i : Nat) : Int)) < (((m : Nat) : Int)))), qL 28 b 0 M (.agg ⟨[(i64 n), (i64 st), (i64 en), (.slice a1 m1 c1), (sli bb o m c)]⟩), qL 26 b 4 M (sli bb o m c), .q (.inb (((i : Nat) : Int)) m) (ansB true), qL 3 bb (o + (((i : Nat) : Int) : Int).toNat * 2 + 0) M (i64 x), qC 51 [(.agg ⟨[(i64 n), (i64 st), (i64 en), (.slice a1 m1 c1), (sli bb o m c)]⟩), (i64 x)] M (.bool (inB2 n x)) M3, qF (!(inB2 n x)), qL 28 b 0 M3 (.agg ⟨[(i64 n), (i64 st), (i64 en), (.slice a1 m1 c1), (sli bb o m c)]⟩), qF (!(inB2 n x)), qF (!(inB2 n x)), qL 26 b 4 M3 (sli bb o m c), qF (!(inB2 n x)), qF (!(inB2 n x)), .q (.inb (((i : Nat) : Int)) m) (ansB true), qF (!(inB2 n x)), qF (!(inB2 n x)), qL 3 bb (o + (((i : Nat) : Int) : Int).toNat * 2 + 1) M3 (i64 y), qF (!(inB2 n x)), qC 51 [(.agg ⟨[(i64 n), (i64 st), (i64 en), (.slice a1 m1 c1), (sli bb o m c)]⟩), (i64 y)] M3 (.bool (inB2 n y)) M15, qF (!(inB2 n x)), qF (!(inB2 n x)), qF (!(inB2 n y))]) := by kernel_rfl
theorem rd242_0 (b bb o m c i : Nat) (n st en : Int) (a1 : Option Addr) (m1 c1 : Nat) (x y : Int) {M : Mem} (hM : MemOk M) (hb : M.get b = some ⟨[i64 n, i64 st, i64 en, (.slice a1 m1 c1), (sli bb o m c)], 28, 5, 0, true⟩) (hld0 : aload Try.prog 3 ⟨bb, o + i * 2 + 0, none⟩ M = some (i64 x)) (hld1 : aload Try.prog 3 ⟨bb, o + i * 2 + 1, none⟩ M = some (i64 y)) (cc0 : (decide ((((i : Nat) : Int)) < (((m : Nat) : Int)))) = true) (cc1 : (inB2 n x) = true) (cc2 : (inB2 n y) = true) : ∃ T1 M', Rd Try.prog [] (q24.loopAt 2) Try.f24.ntmps (fr [(1, (pt b 0)), (5, (i64 (((i : Nat) : Int))))]) M .normal T1 M' ∧ [1, 5].map T1.get = [some (pt b 0), some (i64 (IntKind.wrap .i64 ((((i : Nat) : Int)) + (1 : Int))))] ∧ Ext M M' ∧ MemOk M' := by
  obtain ⟨w1, N2, M3, p4, l5, e6, E7, hM8, Q9, G10⟩ := call_t (P := Try.prog) (GL := []) (f := 51) hM (con51 n st en a1 m1 c1 (some ⟨bb, o, none⟩) m c x (MemOk.log hM))
  have g11 := E7.old hb
  have ew1 : w1 = (.bool (inB2 n x)) := (Option.some.inj Q9).symm
  subst ew1
  have X12 := (Ext.refl M).trans E7
  obtain ⟨w13, N14, M15, p16, l17, e18, E19, hM20, Q21, G22⟩ := call_t (P := Try.prog) (GL := []) (f := 51) hM8 (con51 n st en a1 m1 c1 (some ⟨bb, o, none⟩) m c y (MemOk.log hM8))
  have g23 := E19.old g11
  have ew13 : w13 = (.bool (inB2 n y)) := (Option.some.inj Q21).symm
  subst ew13
  have X24 := X12.trans E19
  obtain ⟨T1, h1, h2⟩ := Rd.told noNumP mixedP (fun B => specsB_ok (k := []) (hS24_51 B) (fun p hp => by cases hp)) (fun _ _ => rfl) (rd242_0_raw b bb o m c i n st en a1 m1 c1 x y M M3 M15) (hk (lC dC26 hb rfl) (hk (bT cc0) (hk (lA ⟨dA28, dS28⟩ hb rfl) (hk (lC dC26 hb rfl) (hk (q_inb (by omega) (by simp at cc0; omega)) (hk (q_ld (aload_ext (Ext.refl M) hld0)) (hk (q_call rfl p4 l5 e6) (hk (bF (by rw [cc1]; rfl)) (hk (lA ⟨dA28, dS28⟩ g11 rfl) (hk (bF (by rw [cc1]; rfl)) (hk (bF (by rw [cc1]; rfl)) (hk (lC dC26 g11 rfl) (hk (bF (by rw [cc1]; rfl)) (hk (bF (by rw [cc1]; rfl)) (hk (q_inb (by omega) (by simp at cc0; omega)) (hk (bF (by rw [cc1]; rfl)) (hk (bF (by rw [cc1]; rfl)) (hk (q_ld (aload_ext X12 hld1)) (hk (bF (by rw [cc1]; rfl)) (hk (q_call rfl p16 l17 e18) (hk (bF (by rw [cc1]; rfl)) (hk (bF (by rw [cc1]; rfl)) (hk (bF (by rw [cc2]; rfl)) hn)))))))))))))))))))))))
  exact ⟨T1, M15, h1, h2, X24, hM20⟩
theorem rd242_1_raw (b bb o m c i : Nat) (n st en : Int) (a1 : Option Addr) (m1 c1 : Nat) (x y : Int) (M : Mem) (M3 : Mem) (M15 : Mem) : oR Try.prog [] 40 Try.f24 (q24.loopAt 2) [(1, (pt b 0)), (5, (i64 (((i : Nat) : Int))))] M [ttL 5 (sli bb o m c), ttT 10, ttL 12 (.agg ⟨[(i64 n), (i64 st), (i64 en), (.slice a1 m1 c1), (sli bb o m c)]⟩), ttL 16 (sli bb o m c), ttT 20, ttL 24 (i64 x), ttV 26 (.bool (inB2 n x)) M3, ttF 31, ttL 32 (.agg ⟨[(i64 n), (i64 st), (i64 en), (.slice a1 m1 c1), (sli bb o m c)]⟩), ttF 33, ttF 35, ttL 36 (sli bb o m c), ttF 37, ttF 39, ttT 40, ttF 41, ttF 43, ttL 44 (i64 y), ttF 45, ttV 46 (.bool (inB2 n y)) M15, ttF 47, ttF 50, ttT 51] [2] = some (.ret, [some (.bool false)], M15, [qL 26 b 4 M (sli bb o m c), qT (decide ((((i : Nat) : Int)) < (((m : Nat) : Int)))), qL 28 b 0 M (.agg ⟨[(i64 n), (i64 st), (i64 en), (.slice a1 m1 c1), (sli bb o m c)]⟩), qL 26 b 4 M (sli bb o m c), .q (.inb (((i : Nat) : Int)) m) (ansB true), qL 3 bb (o + (((i : Nat) : Int) : Int).toNat * 2 + 0) M (i64 x), qC 51 [(.agg ⟨[(i64 n), (i64 st), (i64 en), (.slice a1 m1 c1), (sli bb o m c)]⟩), (i64 x)] M (.bool (inB2 n x)) M3, qF (!(inB2 n x)), qL 28 b 0 M3 (.agg ⟨[(i64 n), (i64 st), (i64 en), (.slice a1 m1 c1), (sli bb o m c)]⟩), qF (!(inB2 n x)), qF (!(inB2 n x)), qL 26 b 4 M3 (sli bb o m c), qF (!(inB2 n x)), qF (!(inB2 n x)), .q (.inb (((i : Nat) : Int)) m) (ansB true), qF (!(inB2 n x)), qF (!(inB2 n x)), qL 3 bb (o + (((i : Nat) : Int) : Int).toNat * 2 + 1) M3 (i64 y), qF (!(inB2 n x)), qC 51 [(.agg ⟨[(i64 n), (i64 st), (i64 en), (.slice a1 m1 c1), (sli bb o m c)]⟩), (i64 y)] M3 (.bool (inB2 n y)) M15, qF (!(inB2 n x)), qF (!(inB2 n x)), qT (!(inB2 n y))]) := by kernel_rfl
theorem rd242_1 (b bb o m c i : Nat) (n st en : Int) (a1 : Option Addr) (m1 c1 : Nat) (x y : Int) {M : Mem} (hM : MemOk M) (hb : M.get b = some ⟨[i64 n, i64 st, i64 en, (.slice a1 m1 c1), (sli bb o m c)], 28, 5, 0, true⟩) (hld0 : aload Try.prog 3 ⟨bb, o + i * 2 + 0, none⟩ M = some (i64 x)) (hld1 : aload Try.prog 3 ⟨bb, o + i * 2 + 1, none⟩ M = some (i64 y)) (cc0 : (decide ((((i : Nat) : Int)) < (((m : Nat) : Int)))) = true) (cc1 : (inB2 n x) = true) (cc2 : (inB2 n y) = false) : ∃ T1 M', Rd Try.prog [] (q24.loopAt 2) Try.f24.ntmps (fr [(1, (pt b 0)), (5, (i64 (((i : Nat) : Int))))]) M .ret T1 M' ∧ [2].map T1.get = [some (.bool false)] ∧ Ext M M' ∧ MemOk M' := by
  obtain ⟨w1, N2, M3, p4, l5, e6, E7, hM8, Q9, G10⟩ := call_t (P := Try.prog) (GL := []) (f := 51) hM (con51 n st en a1 m1 c1 (some ⟨bb, o, none⟩) m c x (MemOk.log hM))
  have g11 := E7.old hb
  have ew1 : w1 = (.bool (inB2 n x)) := (Option.some.inj Q9).symm
  subst ew1
  have X12 := (Ext.refl M).trans E7
  obtain ⟨w13, N14, M15, p16, l17, e18, E19, hM20, Q21, G22⟩ := call_t (P := Try.prog) (GL := []) (f := 51) hM8 (con51 n st en a1 m1 c1 (some ⟨bb, o, none⟩) m c y (MemOk.log hM8))
  have g23 := E19.old g11
  have ew13 : w13 = (.bool (inB2 n y)) := (Option.some.inj Q21).symm
  subst ew13
  have X24 := X12.trans E19
  obtain ⟨T1, h1, h2⟩ := Rd.told noNumP mixedP (fun B => specsB_ok (k := []) (hS24_51 B) (fun p hp => by cases hp)) (fun _ _ => rfl) (rd242_1_raw b bb o m c i n st en a1 m1 c1 x y M M3 M15) (hk (lC dC26 hb rfl) (hk (bT cc0) (hk (lA ⟨dA28, dS28⟩ hb rfl) (hk (lC dC26 hb rfl) (hk (q_inb (by omega) (by simp at cc0; omega)) (hk (q_ld (aload_ext (Ext.refl M) hld0)) (hk (q_call rfl p4 l5 e6) (hk (bF (by rw [cc1]; rfl)) (hk (lA ⟨dA28, dS28⟩ g11 rfl) (hk (bF (by rw [cc1]; rfl)) (hk (bF (by rw [cc1]; rfl)) (hk (lC dC26 g11 rfl) (hk (bF (by rw [cc1]; rfl)) (hk (bF (by rw [cc1]; rfl)) (hk (q_inb (by omega) (by simp at cc0; omega)) (hk (bF (by rw [cc1]; rfl)) (hk (bF (by rw [cc1]; rfl)) (hk (q_ld (aload_ext X12 hld1)) (hk (bF (by rw [cc1]; rfl)) (hk (q_call rfl p16 l17 e18) (hk (bF (by rw [cc1]; rfl)) (hk (bF (by rw [cc1]; rfl)) (hk (bT (by rw [cc2]; rfl)) hn)))))))))))))))))))))))
  exact ⟨T1, M15, h1, h2, X24, hM20⟩
theorem rd242_2_raw (b bb o m c i : Nat) (n st en : Int) (a1 : Option Addr) (m1 c1 : Nat) (x _ : Int) (M : Mem) (M3 : Mem) : oR Try.prog [] 40 Try.f24 (q24.loopAt 2) [(1, (pt b 0)), (5, (i64 (((i : Nat) : Int))))] M [ttL 5 (sli bb o m c), ttT 10, ttL 12 (.agg ⟨[(i64 n), (i64 st), (i64 en), (.slice a1 m1 c1), (sli bb o m c)]⟩), ttL 16 (sli bb o m c), ttT 20, ttL 24 (i64 x), ttV 26 (.bool (inB2 n x)) M3, ttT 31, ttT 33, ttT 35, ttT 37, ttT 39, ttT 41, ttT 43, ttT 45, ttT 47, ttT 50] [2] = some (.ret, [some (.bool false)], M3, [qL 26 b 4 M (sli bb o m c), qT (decide ((((i : Nat) : Int)) < (((m : Nat) : Int)))), qL 28 b 0 M (.agg ⟨[(i64 n), (i64 st), (i64 en), (.slice a1 m1 c1), (sli bb o m c)]⟩), qL 26 b 4 M (sli bb o m c), .q (.inb (((i : Nat) : Int)) m) (ansB true), qL 3 bb (o + (((i : Nat) : Int) : Int).toNat * 2 + 0) M (i64 x), qC 51 [(.agg ⟨[(i64 n), (i64 st), (i64 en), (.slice a1 m1 c1), (sli bb o m c)]⟩), (i64 x)] M (.bool (inB2 n x)) M3, qT (!(inB2 n x)), qT (!(inB2 n x)), qT (!(inB2 n x)), qT (!(inB2 n x)), qT (!(inB2 n x)), qT (!(inB2 n x)), qT (!(inB2 n x)), qT (!(inB2 n x)), qT (!(inB2 n x)), qT (!(inB2 n x))]) := by kernel_rfl
theorem rd242_2 (b bb o m c i : Nat) (n st en : Int) (a1 : Option Addr) (m1 c1 : Nat) (x y : Int) {M : Mem} (hM : MemOk M) (hb : M.get b = some ⟨[i64 n, i64 st, i64 en, (.slice a1 m1 c1), (sli bb o m c)], 28, 5, 0, true⟩) (hld0 : aload Try.prog 3 ⟨bb, o + i * 2 + 0, none⟩ M = some (i64 x)) (_ : aload Try.prog 3 ⟨bb, o + i * 2 + 1, none⟩ M = some (i64 y)) (cc0 : (decide ((((i : Nat) : Int)) < (((m : Nat) : Int)))) = true) (cc1 : (inB2 n x) = false) : ∃ T1 M', Rd Try.prog [] (q24.loopAt 2) Try.f24.ntmps (fr [(1, (pt b 0)), (5, (i64 (((i : Nat) : Int))))]) M .ret T1 M' ∧ [2].map T1.get = [some (.bool false)] ∧ Ext M M' ∧ MemOk M' := by
  obtain ⟨w1, N2, M3, p4, l5, e6, E7, hM8, Q9, G10⟩ := call_t (P := Try.prog) (GL := []) (f := 51) hM (con51 n st en a1 m1 c1 (some ⟨bb, o, none⟩) m c x (MemOk.log hM))
  have g11 := E7.old hb
  have ew1 : w1 = (.bool (inB2 n x)) := (Option.some.inj Q9).symm
  subst ew1
  have X12 := (Ext.refl M).trans E7
  obtain ⟨T1, h1, h2⟩ := Rd.told noNumP mixedP (fun B => specsB_ok (k := []) (hS24_51 B) (fun p hp => by cases hp)) (fun _ _ => rfl) (rd242_2_raw b bb o m c i n st en a1 m1 c1 x y M M3) (hk (lC dC26 hb rfl) (hk (bT cc0) (hk (lA ⟨dA28, dS28⟩ hb rfl) (hk (lC dC26 hb rfl) (hk (q_inb (by omega) (by simp at cc0; omega)) (hk (q_ld (aload_ext (Ext.refl M) hld0)) (hk (q_call rfl p4 l5 e6) (hk (bT (by rw [cc1]; rfl)) (hk (bT (by rw [cc1]; rfl)) (hk (bT (by rw [cc1]; rfl)) (hk (bT (by rw [cc1]; rfl)) (hk (bT (by rw [cc1]; rfl)) (hk (bT (by rw [cc1]; rfl)) (hk (bT (by rw [cc1]; rfl)) (hk (bT (by rw [cc1]; rfl)) (hk (bT (by rw [cc1]; rfl)) (hk (bT (by rw [cc1]; rfl)) hn)))))))))))))))))
  exact ⟨T1, M3, h1, h2, X12, hM8⟩
theorem rd242x_raw (b : Nat) (a : Option Addr) (m c i : Nat) (_ _ _ : Int) (_ : Option Addr) (_ _ : Nat) (M : Mem)  : oR Try.prog [] 40 Try.f24 (q24.loopAt 2) [(1, (pt b 0)), (5, (i64 (((i : Nat) : Int))))] M [ttL 5 (.slice a m c), ttT 7, ttF 10] [1] = some ((.exit 2), [some (pt b 0)], M, [qL 26 b 4 M (.slice a m c), .ln a m c, qF (decide ((((i : Nat) : Int)) < (((m : Nat) : Int))))]) := by kernel_rfl
theorem rd242x (b : Nat) (a : Option Addr) (m c i : Nat) (n st en : Int) (a1 : Option Addr) (m1 c1 : Nat) {M : Mem} (hM : MemOk M) (hb : M.get b = some ⟨[i64 n, i64 st, i64 en, (.slice a1 m1 c1), (.slice a m c)], 28, 5, 0, true⟩) (hln : a.isNone = true → m = 0 ∧ c = 0) (cc0 : (decide ((((i : Nat) : Int)) < (((m : Nat) : Int)))) = false) : ∃ T1 M', Rd Try.prog [] (q24.loopAt 2) Try.f24.ntmps (fr [(1, (pt b 0)), (5, (i64 (((i : Nat) : Int))))]) M (.exit 2) T1 M' ∧ [1].map T1.get = [some (pt b 0)] ∧ Ext M M' ∧ MemOk M' := by
  obtain ⟨T1, h1, h2⟩ := Rd.told noNumP mixedP (specs_none Try.prog) (fun _ _ => rfl) (rd242x_raw b a m c i n st en a1 m1 c1 M ) (hk (lC dC26 hb rfl) (hk (lN hln) (hk (bF cc0) hn)))
  exact ⟨T1, M, h1, h2, (Ext.refl M), hM⟩
theorem rd242n (b bb o m c i : Nat) (n st en : Int) (a1 : Option Addr) (m1 c1 : Nat) (x y : Int) {M : Mem} (hM : MemOk M) (hb : M.get b = some ⟨[i64 n, i64 st, i64 en, (.slice a1 m1 c1), (sli bb o m c)], 28, 5, 0, true⟩) (hld0 : aload Try.prog 3 ⟨bb, o + i * 2 + 0, none⟩ M = some (i64 x)) (hld1 : aload Try.prog 3 ⟨bb, o + i * 2 + 1, none⟩ M = some (i64 y)) (cc0 : (decide (((i : Nat) : Int) < ((m : Nat) : Int))) = true) (hq : mF n [x, y] = false) : ∃ T1 M', Rd Try.prog [] (q24.loopAt 2) Try.f24.ntmps (fr [(1, (pt b 0)), (5, (i64 (((i : Nat) : Int))))]) M .normal T1 M' ∧ [1, 5].map T1.get = [some (pt b 0), some (i64 (IntKind.wrap .i64 (((i : Nat) : Int) + (1 : Int))))] ∧ Ext M M' ∧ MemOk M' := by
  cases cc1 : (inB2 n x) with
  | true =>
    cases cc2 : (inB2 n y) with
    | true =>
      exact rd242_0 b bb o m c i n st en a1 m1 c1 x y hM hb hld0 hld1 cc0 cc1 cc2
    | false =>
      simp [mF, cc1, cc2] at hq
  | false =>
    simp [mF, cc1] at hq
theorem rd242r (b bb o m c i : Nat) (n st en : Int) (a1 : Option Addr) (m1 c1 : Nat) (x y : Int) {M : Mem} (hM : MemOk M) (hb : M.get b = some ⟨[i64 n, i64 st, i64 en, (.slice a1 m1 c1), (sli bb o m c)], 28, 5, 0, true⟩) (hld0 : aload Try.prog 3 ⟨bb, o + i * 2 + 0, none⟩ M = some (i64 x)) (hld1 : aload Try.prog 3 ⟨bb, o + i * 2 + 1, none⟩ M = some (i64 y)) (cc0 : (decide (((i : Nat) : Int) < ((m : Nat) : Int))) = true) (hq : mF n [x, y] = true) : ∃ T1 M', Rd Try.prog [] (q24.loopAt 2) Try.f24.ntmps (fr [(1, (pt b 0)), (5, (i64 (((i : Nat) : Int))))]) M .ret T1 M' ∧ [2].map T1.get = [some (.bool false)] ∧ Ext M M' ∧ MemOk M' := by
  cases cc1 : (inB2 n x) with
  | true =>
    cases cc2 : (inB2 n y) with
    | true =>
      simp [mF, cc1, cc2] at hq
    | false =>
      exact rd242_1 b bb o m c i n st en a1 m1 c1 x y hM hb hld0 hld1 cc0 cc1 cc2
  | false =>
    exact rd242_2 b bb o m c i n st en a1 m1 c1 x y hM hb hld0 hld1 cc0 cc1
theorem loop242 {l : List (List Int)} {a : Option Addr} {c : Nat} (b : Nat) (n st en : Int) (a1 : Option Addr) (m1 c1 : Nat) : ∀ (k i : Nat), i + k = l.length → ∀ {M : Mem}, MemOk M → FlatAt 2 M (.slice a l.length c) l → (M.get b = some ⟨[i64 n, i64 st, i64 en, (.slice a1 m1 c1), (.slice a l.length c)], 28, 5, 0, true⟩) →
    ∃ M' e T', Ext M M' ∧ LoopR Try.prog [] (q24.loopAt 2) Try.f24.ntmps (fr [(1, (pt b 0)), (5, i64 ((i : Nat) : Int))]) M e T' M' ∧
      (((l.drop i).any (mF n) = false ∧ e = .exit 2 ∧ T' = fr [(1, (pt b 0))]) ∨ ((l.drop i).any (mF n) = true ∧ e = .ret ∧ T' = fr [(2, .bool false)])) := by
  intro k
  induction k with
  | zero =>
    intro i hi M hM hs hb
    obtain ⟨T1, M1, h1, h2, h3, h4⟩ := rd242x b a l.length c i n st en a1 m1 c1 hM hb hs.ln (by simp; omega)
    refine ⟨M1, _, fr [(1, (pt b 0))], h3, LoopR.stop h1 (by simp) (TSub.fr (l := [(1, (pt b 0))]) h2), .inl ⟨?_, rfl, rfl⟩⟩
    rw [List.drop_eq_nil_of_le (by omega)]; rfl
  | succ k ih2 =>
    intro i hi M hM hs hb
    have hlen := hs.len
    have hlt : i < l.length := by omega
    rcases id hs.at_ with ⟨_, _, h0⟩ | ⟨bb, o, c', blk, pre, post, h1, h2⟩
    · omega
    cases h1
    obtain ⟨r, ht⟩ : ∃ r, l[i]? = some r := ⟨l[i], List.getElem?_eq_getElem hlt⟩
    have hdrop : l.drop i = r :: l.drop (i + 1) := by
      rw [List.drop_eq_getElem_cons hlt]
      rw [List.getElem?_eq_getElem hlt] at ht
      rw [Option.some.inj ht]
    obtain ⟨x, y, rfl⟩ := two_of (hs.wide _ (List.mem_of_getElem? ht))
    have hld0 := load_flat_cell (P := Try.prog) (ty := 3) (j := 0) hs ht rfl dC3
    have hld1 := load_flat_cell (P := Try.prog) (ty := 3) (j := 1) hs ht rfl dC3
    have hc : decide ((((i : Nat) : Int)) < (((l.length : Nat) : Int))) = true := by simp; omega
    cases hq : mF n [x, y] with
    | false =>
      obtain ⟨T1, M1, h1, h2, h3, h4⟩ := rd242n b bb o l.length c i n st en a1 m1 c1 x y hM hb hld0 hld1 hc hq
      rw [wrap_succ (by omega)] at h2
      obtain ⟨M2, e, T', q1, q2, q3⟩ := ih2 (i + 1) (by omega) h4 (hs.Ext h3) (h3.old hb)
      refine ⟨M2, e, T', h3.trans q1, LoopR.step h1 (TSub.fr (l := [(1, (pt b 0)), (5, i64 ((i + 1 : Nat) : Int))]) h2) q2, ?_⟩
      rw [hdrop]
      simp only [List.any_cons, hq, Bool.false_or]
      exact q3
    | true =>
      obtain ⟨T1, M1, h1, h2, h3, h4⟩ := rd242r b bb o l.length c i n st en a1 m1 c1 x y hM hb hld0 hld1 hc hq
      refine ⟨M1, _, _, h3, LoopR.stop h1 (by simp) (TSub.fr (l := [(2, .bool false)]) h2), .inr ⟨?_, rfl, rfl⟩⟩
      rw [hdrop]
      simp only [List.any_cons, hq, Bool.true_or]
theorem loop242_t {l : List (List Int)} {a : Option Addr} {c : Nat} (b : Nat) (n st en : Int) (a1 : Option Addr) (m1 c1 : Nat) {M : Mem} (hM : MemOk M) (hs : FlatAt 2 M (.slice a l.length c) l) (hb : M.get b = some ⟨[i64 n, i64 st, i64 en, (.slice a1 m1 c1), (.slice a l.length c)], 28, 5, 0, true⟩) (h : l.any (mF n) = false) :
    ∃ M', LoopR Try.prog [] (q24.loopAt 2) Try.f24.ntmps (fr [(1, (pt b 0)), (5, i64 0)]) M (.exit 2) (fr [(1, (pt b 0))]) M' ∧ Ext M M' ∧ MemOk M' := by
  obtain ⟨M', e, T', h1, h2, h3⟩ := loop242 b n st en a1 m1 c1 l.length 0 (by omega) hM hs hb
  rw [List.drop_zero, h] at h3
  rcases h3 with ⟨_, rfl, rfl⟩ | ⟨h3, _⟩
  · exact ⟨M', h2, h1, hM.ext h1⟩
  · cases h3
theorem loop242_f {l : List (List Int)} {a : Option Addr} {c : Nat} (b : Nat) (n st en : Int) (a1 : Option Addr) (m1 c1 : Nat) {M : Mem} (hM : MemOk M) (hs : FlatAt 2 M (.slice a l.length c) l) (hb : M.get b = some ⟨[i64 n, i64 st, i64 en, (.slice a1 m1 c1), (.slice a l.length c)], 28, 5, 0, true⟩) (h : l.any (mF n) = true) :
    ∃ M', LoopR Try.prog [] (q24.loopAt 2) Try.f24.ntmps (fr [(1, (pt b 0)), (5, i64 0)]) M .ret (fr [(2, .bool false)]) M' ∧ Ext M M' ∧ MemOk M' := by
  obtain ⟨M', e, T', h1, h2, h3⟩ := loop242 b n st en a1 m1 c1 l.length 0 (by omega) hM hs hb
  rw [List.drop_zero, h] at h3
  rcases h3 with ⟨h3, _⟩ | ⟨_, rfl, rfl⟩
  · cases h3
  · exact ⟨M', h2, h1, hM.ext h1⟩
theorem w24_0_raw (n st en : Int) (a1 : Option Addr) (c1 : Nat) (a2 : Option Addr) (c2 : Nat) (l1 l2 : List (List Int))  (M : Mem) (b1 : Nat) (M2 : Mem) : oT Try.prog [] 40 Try.f24 q24 [(.agg ⟨[(i64 n), (i64 st), (i64 en), (.slice a1 l1.length c1), (.slice a2 l2.length c2)]⟩)] M [ttV 1 (pt b1 0) M2, ttL 7 (i64 n), ttT 12, ttT 14, ttT 16, ttT 19] 2 = some (.ret, some (.bool false), M2, [.eq (abox Try.prog 28 (.agg ⟨[(i64 n), (i64 st), (i64 en), (.slice a1 l1.length c1), (.slice a2 l2.length c2)]⟩) M) (1, .val (pt b1 0), M2), qL 3 b1 0 M2 (i64 n), qT (decide (n < (1 : Int))), qT (decide (n < (1 : Int))), qT (decide (n < (1 : Int))), qT (decide (n < (1 : Int)))]) := by kernel_rfl
theorem w24_0 (n st en : Int) (a1 : Option Addr) (c1 : Nat) (a2 : Option Addr) (c2 : Nat) (l1 l2 : List (List Int))  {M : Mem} (hM : MemOk M) (_ : FlatAt 3 M (.slice a1 l1.length c1) l1) (_ : FlatAt 2 M (.slice a2 l2.length c2) l2) (cc0 : (decide (n < (1 : Int))) = true) : ∃ M', Ev Try.prog [] 24 [(.agg ⟨[(i64 n), (i64 st), (i64 en), (.slice a1 l1.length c1), (.slice a2 l2.length c2)]⟩)] M (.bool false) M' ∧ Ext M M' := by
  obtain ⟨b1, M2, eb3, em4, g5, E6, hM7⟩ := new_t hM ⟨[(i64 n), (i64 st), (i64 en), (.slice a1 l1.length c1), (.slice a2 l2.length c2)], 28, 5, 0, true⟩
  have nb1 : M.next ≤ b1 := by rw [← eb3]; exact (Ext.refl M).next
  have X8 := (Ext.refl M).trans E6
  exact ⟨M2, Ev.told_tmp noNumP mixedP Try.func24 q24_ok (by kernel_rfl) rK24 (specs_none Try.prog) (fun _ _ => rfl) (w24_0_raw n st en a1 c1 a2 c2 l1 l2 M b1 M2) (hk (q_eq (by rw [← eb3, ← em4]; kernel_rfl) Nat.one_ne_zero) (hk (lC dC3 g5 rfl) (hk (bT cc0) (hk (bT cc0) (hk (bT cc0) (hk (bT cc0) hn)))))), X8⟩
theorem w24_1_raw (n st en : Int) (a1 : Option Addr) (c1 : Nat) (a2 : Option Addr) (c2 : Nat) (l1 l2 : List (List Int))  (M : Mem) (b1 : Nat) (M2 : Mem) : oT Try.prog [] 40 Try.f24 q24 [(.agg ⟨[(i64 n), (i64 st), (i64 en), (.slice a1 l1.length c1), (.slice a2 l2.length c2)]⟩)] M [ttV 1 (pt b1 0) M2, ttL 7 (i64 n), ttF 12, ttF 14, ttL 15 (i64 n), ttF 16, ttF 19, ttT 22, ttT 24, ttT 26, ttT 28, ttT 31] 2 = some (.ret, some (.bool false), M2, [.eq (abox Try.prog 28 (.agg ⟨[(i64 n), (i64 st), (i64 en), (.slice a1 l1.length c1), (.slice a2 l2.length c2)]⟩) M) (1, .val (pt b1 0), M2), qL 3 b1 0 M2 (i64 n), qF (decide (n < (1 : Int))), qF (decide (n < (1 : Int))), qL 3 b1 0 M2 (i64 n), qF (decide (n < (1 : Int))), qF (decide (n < (1 : Int))), qT (decide (n > (1000 : Int))), qT (decide (n > (1000 : Int))), qT (decide (n > (1000 : Int))), qT (decide (n > (1000 : Int))), qT (decide (n > (1000 : Int)))]) := by kernel_rfl
theorem w24_1 (n st en : Int) (a1 : Option Addr) (c1 : Nat) (a2 : Option Addr) (c2 : Nat) (l1 l2 : List (List Int))  {M : Mem} (hM : MemOk M) (_ : FlatAt 3 M (.slice a1 l1.length c1) l1) (_ : FlatAt 2 M (.slice a2 l2.length c2) l2) (cc0 : (decide (n < (1 : Int))) = false) (cc1 : (decide (n > (1000 : Int))) = true) : ∃ M', Ev Try.prog [] 24 [(.agg ⟨[(i64 n), (i64 st), (i64 en), (.slice a1 l1.length c1), (.slice a2 l2.length c2)]⟩)] M (.bool false) M' ∧ Ext M M' := by
  obtain ⟨b1, M2, eb3, em4, g5, E6, hM7⟩ := new_t hM ⟨[(i64 n), (i64 st), (i64 en), (.slice a1 l1.length c1), (.slice a2 l2.length c2)], 28, 5, 0, true⟩
  have nb1 : M.next ≤ b1 := by rw [← eb3]; exact (Ext.refl M).next
  have X8 := (Ext.refl M).trans E6
  exact ⟨M2, Ev.told_tmp noNumP mixedP Try.func24 q24_ok (by kernel_rfl) rK24 (specs_none Try.prog) (fun _ _ => rfl) (w24_1_raw n st en a1 c1 a2 c2 l1 l2 M b1 M2) (hk (q_eq (by rw [← eb3, ← em4]; kernel_rfl) Nat.one_ne_zero) (hk (lC dC3 g5 rfl) (hk (bF cc0) (hk (bF cc0) (hk (lC dC3 g5 rfl) (hk (bF cc0) (hk (bF cc0) (hk (bT cc1) (hk (bT cc1) (hk (bT cc1) (hk (bT cc1) (hk (bT cc1) hn)))))))))))), X8⟩
theorem w24_2_raw (n st en : Int) (a1 : Option Addr) (c1 : Nat) (a2 : Option Addr) (c2 : Nat) (l1 l2 : List (List Int))  (M : Mem) (b1 : Nat) (M2 : Mem) : oT Try.prog [] 40 Try.f24 q24 [(.agg ⟨[(i64 n), (i64 st), (i64 en), (.slice a1 l1.length c1), (.slice a2 l2.length c2)]⟩)] M [ttV 1 (pt b1 0) M2, ttL 7 (i64 n), ttF 12, ttF 14, ttL 15 (i64 n), ttF 16, ttF 19, ttF 22, ttF 24, ttL 25 (.slice a1 l1.length c1), ttF 26, ttT 27, ttF 28, ttF 31, ttT 34, ttT 36, ttT 38, ttT 40, ttT 43] 2 = some (.ret, some (.bool false), M2, [.eq (abox Try.prog 28 (.agg ⟨[(i64 n), (i64 st), (i64 en), (.slice a1 l1.length c1), (.slice a2 l2.length c2)]⟩) M) (1, .val (pt b1 0), M2), qL 3 b1 0 M2 (i64 n), qF (decide (n < (1 : Int))), qF (decide (n < (1 : Int))), qL 3 b1 0 M2 (i64 n), qF (decide (n < (1 : Int))), qF (decide (n < (1 : Int))), qF (decide (n > (1000 : Int))), qF (decide (n > (1000 : Int))), qL 25 b1 3 M2 (.slice a1 l1.length c1), qF (decide (n > (1000 : Int))), .ln a1 l1.length c1, qF (decide (n > (1000 : Int))), qF (decide (n > (1000 : Int))), qT (decide ((((l1.length : Nat) : Int)) > (20000 : Int))), qT (decide ((((l1.length : Nat) : Int)) > (20000 : Int))), qT (decide ((((l1.length : Nat) : Int)) > (20000 : Int))), qT (decide ((((l1.length : Nat) : Int)) > (20000 : Int))), qT (decide ((((l1.length : Nat) : Int)) > (20000 : Int)))]) := by kernel_rfl
theorem w24_2 (n st en : Int) (a1 : Option Addr) (c1 : Nat) (a2 : Option Addr) (c2 : Nat) (l1 l2 : List (List Int))  {M : Mem} (hM : MemOk M) (hs1 : FlatAt 3 M (.slice a1 l1.length c1) l1) (_ : FlatAt 2 M (.slice a2 l2.length c2) l2) (cc0 : (decide (n < (1 : Int))) = false) (cc1 : (decide (n > (1000 : Int))) = false) (cc2 : (decide ((((l1.length : Nat) : Int)) > (20000 : Int))) = true) : ∃ M', Ev Try.prog [] 24 [(.agg ⟨[(i64 n), (i64 st), (i64 en), (.slice a1 l1.length c1), (.slice a2 l2.length c2)]⟩)] M (.bool false) M' ∧ Ext M M' := by
  obtain ⟨b1, M2, eb3, em4, g5, E6, hM7⟩ := new_t hM ⟨[(i64 n), (i64 st), (i64 en), (.slice a1 l1.length c1), (.slice a2 l2.length c2)], 28, 5, 0, true⟩
  have nb1 : M.next ≤ b1 := by rw [← eb3]; exact (Ext.refl M).next
  have X8 := (Ext.refl M).trans E6
  exact ⟨M2, Ev.told_tmp noNumP mixedP Try.func24 q24_ok (by kernel_rfl) rK24 (specs_none Try.prog) (fun _ _ => rfl) (w24_2_raw n st en a1 c1 a2 c2 l1 l2 M b1 M2) (hk (q_eq (by rw [← eb3, ← em4]; kernel_rfl) Nat.one_ne_zero) (hk (lC dC3 g5 rfl) (hk (bF cc0) (hk (bF cc0) (hk (lC dC3 g5 rfl) (hk (bF cc0) (hk (bF cc0) (hk (bF cc1) (hk (bF cc1) (hk (lC dC25 g5 rfl) (hk (bF cc1) (hk (lN hs1.ln) (hk (bF cc1) (hk (bF cc1) (hk (bT cc2) (hk (bT cc2) (hk (bT cc2) (hk (bT cc2) (hk (bT cc2) hn))))))))))))))))))), X8⟩
theorem w24_3_raw (n st en : Int) (a1 : Option Addr) (c1 : Nat) (a2 : Option Addr) (c2 : Nat) (l1 l2 : List (List Int))  (M : Mem) (b1 : Nat) (M2 : Mem) : oT Try.prog [] 40 Try.f24 q24 [(.agg ⟨[(i64 n), (i64 st), (i64 en), (.slice a1 l1.length c1), (.slice a2 l2.length c2)]⟩)] M [ttV 1 (pt b1 0) M2, ttL 7 (i64 n), ttF 12, ttF 14, ttL 15 (i64 n), ttF 16, ttF 19, ttF 22, ttF 24, ttL 25 (.slice a1 l1.length c1), ttF 26, ttT 27, ttF 28, ttF 31, ttF 34, ttF 36, ttL 37 (.slice a2 l2.length c2), ttF 38, ttT 39, ttF 40, ttF 43, ttT 46, ttT 48, ttT 50, ttT 52, ttT 54, ttT 57] 2 = some (.ret, some (.bool false), M2, [.eq (abox Try.prog 28 (.agg ⟨[(i64 n), (i64 st), (i64 en), (.slice a1 l1.length c1), (.slice a2 l2.length c2)]⟩) M) (1, .val (pt b1 0), M2), qL 3 b1 0 M2 (i64 n), qF (decide (n < (1 : Int))), qF (decide (n < (1 : Int))), qL 3 b1 0 M2 (i64 n), qF (decide (n < (1 : Int))), qF (decide (n < (1 : Int))), qF (decide (n > (1000 : Int))), qF (decide (n > (1000 : Int))), qL 25 b1 3 M2 (.slice a1 l1.length c1), qF (decide (n > (1000 : Int))), .ln a1 l1.length c1, qF (decide (n > (1000 : Int))), qF (decide (n > (1000 : Int))), qF (decide ((((l1.length : Nat) : Int)) > (20000 : Int))), qF (decide ((((l1.length : Nat) : Int)) > (20000 : Int))), qL 26 b1 4 M2 (.slice a2 l2.length c2), qF (decide ((((l1.length : Nat) : Int)) > (20000 : Int))), .ln a2 l2.length c2, qF (decide ((((l1.length : Nat) : Int)) > (20000 : Int))), qF (decide ((((l1.length : Nat) : Int)) > (20000 : Int))), qT (decide ((((l2.length : Nat) : Int)) > (20000 : Int))), qT (decide ((((l2.length : Nat) : Int)) > (20000 : Int))), qT (decide ((((l2.length : Nat) : Int)) > (20000 : Int))), qT (decide ((((l2.length : Nat) : Int)) > (20000 : Int))), qT (decide ((((l2.length : Nat) : Int)) > (20000 : Int))), qT (decide ((((l2.length : Nat) : Int)) > (20000 : Int)))]) := by kernel_rfl
theorem w24_3 (n st en : Int) (a1 : Option Addr) (c1 : Nat) (a2 : Option Addr) (c2 : Nat) (l1 l2 : List (List Int))  {M : Mem} (hM : MemOk M) (hs1 : FlatAt 3 M (.slice a1 l1.length c1) l1) (hs2 : FlatAt 2 M (.slice a2 l2.length c2) l2) (cc0 : (decide (n < (1 : Int))) = false) (cc1 : (decide (n > (1000 : Int))) = false) (cc2 : (decide ((((l1.length : Nat) : Int)) > (20000 : Int))) = false) (cc3 : (decide ((((l2.length : Nat) : Int)) > (20000 : Int))) = true) : ∃ M', Ev Try.prog [] 24 [(.agg ⟨[(i64 n), (i64 st), (i64 en), (.slice a1 l1.length c1), (.slice a2 l2.length c2)]⟩)] M (.bool false) M' ∧ Ext M M' := by
  obtain ⟨b1, M2, eb3, em4, g5, E6, hM7⟩ := new_t hM ⟨[(i64 n), (i64 st), (i64 en), (.slice a1 l1.length c1), (.slice a2 l2.length c2)], 28, 5, 0, true⟩
  have nb1 : M.next ≤ b1 := by rw [← eb3]; exact (Ext.refl M).next
  have X8 := (Ext.refl M).trans E6
  exact ⟨M2, Ev.told_tmp noNumP mixedP Try.func24 q24_ok (by kernel_rfl) rK24 (specs_none Try.prog) (fun _ _ => rfl) (w24_3_raw n st en a1 c1 a2 c2 l1 l2 M b1 M2) (hk (q_eq (by rw [← eb3, ← em4]; kernel_rfl) Nat.one_ne_zero) (hk (lC dC3 g5 rfl) (hk (bF cc0) (hk (bF cc0) (hk (lC dC3 g5 rfl) (hk (bF cc0) (hk (bF cc0) (hk (bF cc1) (hk (bF cc1) (hk (lC dC25 g5 rfl) (hk (bF cc1) (hk (lN hs1.ln) (hk (bF cc1) (hk (bF cc1) (hk (bF cc2) (hk (bF cc2) (hk (lC dC26 g5 rfl) (hk (bF cc2) (hk (lN hs2.ln) (hk (bF cc2) (hk (bF cc2) (hk (bT cc3) (hk (bT cc3) (hk (bT cc3) (hk (bT cc3) (hk (bT cc3) (hk (bT cc3) hn))))))))))))))))))))))))))), X8⟩
theorem w24_4_raw (n st en : Int) (a1 : Option Addr) (c1 : Nat) (a2 : Option Addr) (c2 : Nat) (l1 l2 : List (List Int))  (M : Mem) (b1 : Nat) (M2 : Mem) (M11 : Mem) (M23 : Mem) (M33 : Mem) : oT Try.prog [0] 40 Try.f24 q24 [(.agg ⟨[(i64 n), (i64 st), (i64 en), (.slice a1 l1.length c1), (.slice a2 l2.length c2)]⟩)] M [ttV 1 (pt b1 0) M2, ttL 7 (i64 n), ttF 12, ttF 14, ttL 15 (i64 n), ttF 16, ttF 19, ttF 22, ttF 24, ttL 25 (.slice a1 l1.length c1), ttF 26, ttT 27, ttF 28, ttF 31, ttF 34, ttF 36, ttL 37 (.slice a2 l2.length c2), ttF 38, ttT 39, ttF 40, ttF 43, ttF 46, ttL 47 (.agg ⟨[(i64 n), (i64 st), (i64 en), (.slice a1 l1.length c1), (.slice a2 l2.length c2)]⟩), ttF 48, ttF 50, ttL 51 (i64 st), ttF 52, ttV 53 (.bool (inB2 n st)) M11, ttF 54, ttF 57, ttF 60, ttL 61 (.agg ⟨[(i64 n), (i64 st), (i64 en), (.slice a1 l1.length c1), (.slice a2 l2.length c2)]⟩), ttF 62, ttF 64, ttL 65 (i64 en), ttF 66, ttV 67 (.bool (inB2 n en)) M23, ttF 68, ttF 71, ttF 72, .blk 75 [1, 3] .ret (fr [(2, .bool false)]) M33] 2 = some (.ret, some (.bool false), M33, [.eq (abox Try.prog 28 (.agg ⟨[(i64 n), (i64 st), (i64 en), (.slice a1 l1.length c1), (.slice a2 l2.length c2)]⟩) M) (1, .val (pt b1 0), M2), qL 3 b1 0 M2 (i64 n), qF (decide (n < (1 : Int))), qF (decide (n < (1 : Int))), qL 3 b1 0 M2 (i64 n), qF (decide (n < (1 : Int))), qF (decide (n < (1 : Int))), qF (decide (n > (1000 : Int))), qF (decide (n > (1000 : Int))), qL 25 b1 3 M2 (.slice a1 l1.length c1), qF (decide (n > (1000 : Int))), .ln a1 l1.length c1, qF (decide (n > (1000 : Int))), qF (decide (n > (1000 : Int))), qF (decide ((((l1.length : Nat) : Int)) > (20000 : Int))), qF (decide ((((l1.length : Nat) : Int)) > (20000 : Int))), qL 26 b1 4 M2 (.slice a2 l2.length c2), qF (decide ((((l1.length : Nat) : Int)) > (20000 : Int))), .ln a2 l2.length c2, qF (decide ((((l1.length : Nat) : Int)) > (20000 : Int))), qF (decide ((((l1.length : Nat) : Int)) > (20000 : Int))), qF (decide ((((l2.length : Nat) : Int)) > (20000 : Int))), qL 28 b1 0 M2 (.agg ⟨[(i64 n), (i64 st), (i64 en), (.slice a1 l1.length c1), (.slice a2 l2.length c2)]⟩), qF (decide ((((l2.length : Nat) : Int)) > (20000 : Int))), qF (decide ((((l2.length : Nat) : Int)) > (20000 : Int))), qL 3 b1 1 M2 (i64 st), qF (decide ((((l2.length : Nat) : Int)) > (20000 : Int))), qC 51 [(.agg ⟨[(i64 n), (i64 st), (i64 en), (.slice a1 l1.length c1), (.slice a2 l2.length c2)]⟩), (i64 st)] M2 (.bool (inB2 n st)) M11, qF (decide ((((l2.length : Nat) : Int)) > (20000 : Int))), qF (decide ((((l2.length : Nat) : Int)) > (20000 : Int))), qF (!(inB2 n st)), qL 28 b1 0 M11 (.agg ⟨[(i64 n), (i64 st), (i64 en), (.slice a1 l1.length c1), (.slice a2 l2.length c2)]⟩), qF (!(inB2 n st)), qF (!(inB2 n st)), qL 3 b1 2 M11 (i64 en), qF (!(inB2 n st)), qC 51 [(.agg ⟨[(i64 n), (i64 st), (i64 en), (.slice a1 l1.length c1), (.slice a2 l2.length c2)]⟩), (i64 en)] M11 (.bool (inB2 n en)) M23, qF (!(inB2 n st)), qF (!(inB2 n st)), qF (!(inB2 n en)), .blk 0 (.loop (q24.loopAt 0)) Try.f24.ntmps [1, 3] [some (pt b1 0), some (i64 0)] M23 .ret (fr [(2, .bool false)]) M33]) := by kernel_rfl
theorem w24_4 (n st en : Int) (a1 : Option Addr) (c1 : Nat) (a2 : Option Addr) (c2 : Nat) (l1 l2 : List (List Int))  {M : Mem} (hM : MemOk M) (hs1 : FlatAt 3 M (.slice a1 l1.length c1) l1) (hs2 : FlatAt 2 M (.slice a2 l2.length c2) l2) (cc0 : (decide (n < (1 : Int))) = false) (cc1 : (decide (n > (1000 : Int))) = false) (cc2 : (decide ((((l1.length : Nat) : Int)) > (20000 : Int))) = false) (cc3 : (decide ((((l2.length : Nat) : Int)) > (20000 : Int))) = false) (cc4 : (inB2 n st) = true) (cc5 : (inB2 n en) = true) (cc6 : (l1.any (mS n)) = true) : ∃ M', Ev Try.prog [] 24 [(.agg ⟨[(i64 n), (i64 st), (i64 en), (.slice a1 l1.length c1), (.slice a2 l2.length c2)]⟩)] M (.bool false) M' ∧ Ext M M' := by
  obtain ⟨b1, M2, eb3, em4, g5, E6, hM7⟩ := new_t hM ⟨[(i64 n), (i64 st), (i64 en), (.slice a1 l1.length c1), (.slice a2 l2.length c2)], 28, 5, 0, true⟩
  have nb1 : M.next ≤ b1 := by rw [← eb3]; exact (Ext.refl M).next
  have X8 := (Ext.refl M).trans E6
  obtain ⟨w9, N10, M11, p12, l13, e14, E15, hM16, Q17, G18⟩ := call_t (P := Try.prog) (GL := []) (f := 51) hM7 (con51 n st en a1 l1.length c1 a2 l2.length c2 st (MemOk.log hM7))
  have g19 := E15.old g5
  have ew9 : w9 = (.bool (inB2 n st)) := (Option.some.inj Q17).symm
  subst ew9
  have X20 := X8.trans E15
  obtain ⟨w21, N22, M23, p24, l25, e26, E27, hM28, Q29, G30⟩ := call_t (P := Try.prog) (GL := []) (f := 51) hM16 (con51 n st en a1 l1.length c1 a2 l2.length c2 en (MemOk.log hM16))
  have g31 := E27.old g19
  have ew21 : w21 = (.bool (inB2 n en)) := (Option.some.inj Q29).symm
  subst ew21
  have X32 := X20.trans E27
  obtain ⟨M33, hL34, E35, hM36⟩ := loop240_f b1 n st en a2 l2.length c2 hM28 (hs1.Ext X32) g31 cc6
  have g37 := E35.old g31
  have X38 := X32.trans E35
  exact ⟨M33, Ev.told_tmp noNumP mixedP Try.func24 q24_ok (by kernel_rfl) rK24 (fun B => specsB_ok (hS24_51 B) (k := [(0, bone (.loop (q24.loopAt 0)) Try.f24.ntmps [1, 3] [some (pt b1 0), some (i64 0)] M23 .ret (fr [(2, .bool false)]) M33)]) (fun p hp => by simp only [List.mem_cons, List.not_mem_nil, or_false] at hp; rcases hp with rfl <;> first | exact BlkOk.loop noNumP mixedP hL34)) (fun _ h => blksF_one h) (w24_4_raw n st en a1 c1 a2 c2 l1 l2 M b1 M2 M11 M23 M33) (hk (q_eq (by rw [← eb3, ← em4]; kernel_rfl) Nat.one_ne_zero) (hk (lC dC3 g5 rfl) (hk (bF cc0) (hk (bF cc0) (hk (lC dC3 g5 rfl) (hk (bF cc0) (hk (bF cc0) (hk (bF cc1) (hk (bF cc1) (hk (lC dC25 g5 rfl) (hk (bF cc1) (hk (lN hs1.ln) (hk (bF cc1) (hk (bF cc1) (hk (bF cc2) (hk (bF cc2) (hk (lC dC26 g5 rfl) (hk (bF cc2) (hk (lN hs2.ln) (hk (bF cc2) (hk (bF cc2) (hk (bF cc3) (hk (lA ⟨dA28, dS28⟩ g5 rfl) (hk (bF cc3) (hk (bF cc3) (hk (lC dC3 g5 rfl) (hk (bF cc3) (hk (q_call rfl p12 l13 e14) (hk (bF cc3) (hk (bF cc3) (hk (bF (by rw [cc4]; rfl)) (hk (lA ⟨dA28, dS28⟩ g19 rfl) (hk (bF (by rw [cc4]; rfl)) (hk (bF (by rw [cc4]; rfl)) (hk (lC dC3 g19 rfl) (hk (bF (by rw [cc4]; rfl)) (hk (q_call rfl p24 l25 e26) (hk (bF (by rw [cc4]; rfl)) (hk (bF (by rw [cc4]; rfl)) (hk (bF (by rw [cc5]; rfl)) (hk (q_blk rfl) hn))))))))))))))))))))))))))))))))))))))))), X38⟩
theorem w24_5_raw (n st en : Int) (a1 : Option Addr) (c1 : Nat) (a2 : Option Addr) (c2 : Nat) (l1 l2 : List (List Int))  (M : Mem) (b1 : Nat) (M2 : Mem) (M11 : Mem) (M23 : Mem) (M33 : Mem) (M39 : Mem) : oT Try.prog [0, 2] 40 Try.f24 q24 [(.agg ⟨[(i64 n), (i64 st), (i64 en), (.slice a1 l1.length c1), (.slice a2 l2.length c2)]⟩)] M [ttV 1 (pt b1 0) M2, ttL 7 (i64 n), ttF 12, ttF 14, ttL 15 (i64 n), ttF 16, ttF 19, ttF 22, ttF 24, ttL 25 (.slice a1 l1.length c1), ttF 26, ttT 27, ttF 28, ttF 31, ttF 34, ttF 36, ttL 37 (.slice a2 l2.length c2), ttF 38, ttT 39, ttF 40, ttF 43, ttF 46, ttL 47 (.agg ⟨[(i64 n), (i64 st), (i64 en), (.slice a1 l1.length c1), (.slice a2 l2.length c2)]⟩), ttF 48, ttF 50, ttL 51 (i64 st), ttF 52, ttV 53 (.bool (inB2 n st)) M11, ttF 54, ttF 57, ttF 60, ttL 61 (.agg ⟨[(i64 n), (i64 st), (i64 en), (.slice a1 l1.length c1), (.slice a2 l2.length c2)]⟩), ttF 62, ttF 64, ttL 65 (i64 en), ttF 66, ttV 67 (.bool (inB2 n en)) M23, ttF 68, ttF 71, ttF 72, .blk 75 [1, 3] .normal (fr [(1, (pt b1 0))]) M33, .blk 78 [1, 5] .ret (fr [(2, .bool false)]) M39] 2 = some (.ret, some (.bool false), M39, [.eq (abox Try.prog 28 (.agg ⟨[(i64 n), (i64 st), (i64 en), (.slice a1 l1.length c1), (.slice a2 l2.length c2)]⟩) M) (1, .val (pt b1 0), M2), qL 3 b1 0 M2 (i64 n), qF (decide (n < (1 : Int))), qF (decide (n < (1 : Int))), qL 3 b1 0 M2 (i64 n), qF (decide (n < (1 : Int))), qF (decide (n < (1 : Int))), qF (decide (n > (1000 : Int))), qF (decide (n > (1000 : Int))), qL 25 b1 3 M2 (.slice a1 l1.length c1), qF (decide (n > (1000 : Int))), .ln a1 l1.length c1, qF (decide (n > (1000 : Int))), qF (decide (n > (1000 : Int))), qF (decide ((((l1.length : Nat) : Int)) > (20000 : Int))), qF (decide ((((l1.length : Nat) : Int)) > (20000 : Int))), qL 26 b1 4 M2 (.slice a2 l2.length c2), qF (decide ((((l1.length : Nat) : Int)) > (20000 : Int))), .ln a2 l2.length c2, qF (decide ((((l1.length : Nat) : Int)) > (20000 : Int))), qF (decide ((((l1.length : Nat) : Int)) > (20000 : Int))), qF (decide ((((l2.length : Nat) : Int)) > (20000 : Int))), qL 28 b1 0 M2 (.agg ⟨[(i64 n), (i64 st), (i64 en), (.slice a1 l1.length c1), (.slice a2 l2.length c2)]⟩), qF (decide ((((l2.length : Nat) : Int)) > (20000 : Int))), qF (decide ((((l2.length : Nat) : Int)) > (20000 : Int))), qL 3 b1 1 M2 (i64 st), qF (decide ((((l2.length : Nat) : Int)) > (20000 : Int))), qC 51 [(.agg ⟨[(i64 n), (i64 st), (i64 en), (.slice a1 l1.length c1), (.slice a2 l2.length c2)]⟩), (i64 st)] M2 (.bool (inB2 n st)) M11, qF (decide ((((l2.length : Nat) : Int)) > (20000 : Int))), qF (decide ((((l2.length : Nat) : Int)) > (20000 : Int))), qF (!(inB2 n st)), qL 28 b1 0 M11 (.agg ⟨[(i64 n), (i64 st), (i64 en), (.slice a1 l1.length c1), (.slice a2 l2.length c2)]⟩), qF (!(inB2 n st)), qF (!(inB2 n st)), qL 3 b1 2 M11 (i64 en), qF (!(inB2 n st)), qC 51 [(.agg ⟨[(i64 n), (i64 st), (i64 en), (.slice a1 l1.length c1), (.slice a2 l2.length c2)]⟩), (i64 en)] M11 (.bool (inB2 n en)) M23, qF (!(inB2 n st)), qF (!(inB2 n st)), qF (!(inB2 n en)), .blk 0 (.loop (q24.loopAt 0)) Try.f24.ntmps [1, 3] [some (pt b1 0), some (i64 0)] M23 .normal (fr [(1, (pt b1 0))]) M33, .blk 2 (.loop (q24.loopAt 2)) Try.f24.ntmps [1, 5] [some (pt b1 0), some (i64 0)] M33 .ret (fr [(2, .bool false)]) M39]) := by kernel_rfl
theorem w24_5 (n st en : Int) (a1 : Option Addr) (c1 : Nat) (a2 : Option Addr) (c2 : Nat) (l1 l2 : List (List Int))  {M : Mem} (hM : MemOk M) (hs1 : FlatAt 3 M (.slice a1 l1.length c1) l1) (hs2 : FlatAt 2 M (.slice a2 l2.length c2) l2) (cc0 : (decide (n < (1 : Int))) = false) (cc1 : (decide (n > (1000 : Int))) = false) (cc2 : (decide ((((l1.length : Nat) : Int)) > (20000 : Int))) = false) (cc3 : (decide ((((l2.length : Nat) : Int)) > (20000 : Int))) = false) (cc4 : (inB2 n st) = true) (cc5 : (inB2 n en) = true) (cc6 : (l1.any (mS n)) = false) (cc7 : (l2.any (mF n)) = true) : ∃ M', Ev Try.prog [] 24 [(.agg ⟨[(i64 n), (i64 st), (i64 en), (.slice a1 l1.length c1), (.slice a2 l2.length c2)]⟩)] M (.bool false) M' ∧ Ext M M' := by
  obtain ⟨b1, M2, eb3, em4, g5, E6, hM7⟩ := new_t hM ⟨[(i64 n), (i64 st), (i64 en), (.slice a1 l1.length c1), (.slice a2 l2.length c2)], 28, 5, 0, true⟩
  have nb1 : M.next ≤ b1 := by rw [← eb3]; exact (Ext.refl M).next
  have X8 := (Ext.refl M).trans E6
  obtain ⟨w9, N10, M11, p12, l13, e14, E15, hM16, Q17, G18⟩ := call_t (P := Try.prog) (GL := []) (f := 51) hM7 (con51 n st en a1 l1.length c1 a2 l2.length c2 st (MemOk.log hM7))
  have g19 := E15.old g5
  have ew9 : w9 = (.bool (inB2 n st)) := (Option.some.inj Q17).symm
  subst ew9
  have X20 := X8.trans E15
  obtain ⟨w21, N22, M23, p24, l25, e26, E27, hM28, Q29, G30⟩ := call_t (P := Try.prog) (GL := []) (f := 51) hM16 (con51 n st en a1 l1.length c1 a2 l2.length c2 en (MemOk.log hM16))
  have g31 := E27.old g19
  have ew21 : w21 = (.bool (inB2 n en)) := (Option.some.inj Q29).symm
  subst ew21
  have X32 := X20.trans E27
  obtain ⟨M33, hL34, E35, hM36⟩ := loop240_t b1 n st en a2 l2.length c2 hM28 (hs1.Ext X32) g31 cc6
  have g37 := E35.old g31
  have X38 := X32.trans E35
  obtain ⟨M39, hL40, E41, hM42⟩ := loop242_f b1 n st en a1 l1.length c1 hM36 (hs2.Ext X38) g37 cc7
  have g43 := E41.old g37
  have X44 := X38.trans E41
  exact ⟨M39, Ev.told_tmp noNumP mixedP Try.func24 q24_ok (by kernel_rfl) rK24 (fun B => specsB_ok (hS24_51 B) (k := [(0, bone (.loop (q24.loopAt 0)) Try.f24.ntmps [1, 3] [some (pt b1 0), some (i64 0)] M23 .normal (fr [(1, (pt b1 0))]) M33), (2, bone (.loop (q24.loopAt 2)) Try.f24.ntmps [1, 5] [some (pt b1 0), some (i64 0)] M33 .ret (fr [(2, .bool false)]) M39)]) (fun p hp => by simp only [List.mem_cons, List.not_mem_nil, or_false] at hp; rcases hp with rfl | rfl <;> first | exact BlkOk.loop noNumP mixedP hL34 | exact BlkOk.loop noNumP mixedP hL40)) (fun _ h => blksF_two h) (w24_5_raw n st en a1 c1 a2 c2 l1 l2 M b1 M2 M11 M23 M33 M39) (hk (q_eq (by rw [← eb3, ← em4]; kernel_rfl) Nat.one_ne_zero) (hk (lC dC3 g5 rfl) (hk (bF cc0) (hk (bF cc0) (hk (lC dC3 g5 rfl) (hk (bF cc0) (hk (bF cc0) (hk (bF cc1) (hk (bF cc1) (hk (lC dC25 g5 rfl) (hk (bF cc1) (hk (lN hs1.ln) (hk (bF cc1) (hk (bF cc1) (hk (bF cc2) (hk (bF cc2) (hk (lC dC26 g5 rfl) (hk (bF cc2) (hk (lN hs2.ln) (hk (bF cc2) (hk (bF cc2) (hk (bF cc3) (hk (lA ⟨dA28, dS28⟩ g5 rfl) (hk (bF cc3) (hk (bF cc3) (hk (lC dC3 g5 rfl) (hk (bF cc3) (hk (q_call rfl p12 l13 e14) (hk (bF cc3) (hk (bF cc3) (hk (bF (by rw [cc4]; rfl)) (hk (lA ⟨dA28, dS28⟩ g19 rfl) (hk (bF (by rw [cc4]; rfl)) (hk (bF (by rw [cc4]; rfl)) (hk (lC dC3 g19 rfl) (hk (bF (by rw [cc4]; rfl)) (hk (q_call rfl p24 l25 e26) (hk (bF (by rw [cc4]; rfl)) (hk (bF (by rw [cc4]; rfl)) (hk (bF (by rw [cc5]; rfl)) (hk (q_blk rfl) (hk (q_blk rfl) hn)))))))))))))))))))))))))))))))))))))))))), X44⟩
theorem w24_6_raw (n st en : Int) (a1 : Option Addr) (c1 : Nat) (a2 : Option Addr) (c2 : Nat) (l1 l2 : List (List Int))  (M : Mem) (b1 : Nat) (M2 : Mem) (M11 : Mem) (M23 : Mem) (M33 : Mem) (M39 : Mem) : oT Try.prog [0, 2] 40 Try.f24 q24 [(.agg ⟨[(i64 n), (i64 st), (i64 en), (.slice a1 l1.length c1), (.slice a2 l2.length c2)]⟩)] M [ttV 1 (pt b1 0) M2, ttL 7 (i64 n), ttF 12, ttF 14, ttL 15 (i64 n), ttF 16, ttF 19, ttF 22, ttF 24, ttL 25 (.slice a1 l1.length c1), ttF 26, ttT 27, ttF 28, ttF 31, ttF 34, ttF 36, ttL 37 (.slice a2 l2.length c2), ttF 38, ttT 39, ttF 40, ttF 43, ttF 46, ttL 47 (.agg ⟨[(i64 n), (i64 st), (i64 en), (.slice a1 l1.length c1), (.slice a2 l2.length c2)]⟩), ttF 48, ttF 50, ttL 51 (i64 st), ttF 52, ttV 53 (.bool (inB2 n st)) M11, ttF 54, ttF 57, ttF 60, ttL 61 (.agg ⟨[(i64 n), (i64 st), (i64 en), (.slice a1 l1.length c1), (.slice a2 l2.length c2)]⟩), ttF 62, ttF 64, ttL 65 (i64 en), ttF 66, ttV 67 (.bool (inB2 n en)) M23, ttF 68, ttF 71, ttF 72, .blk 75 [1, 3] .normal (fr [(1, (pt b1 0))]) M33, .blk 78 [1, 5] .normal (fr [(1, (pt b1 0))]) M39] 2 = some (.ret, some (.bool true), M39, [.eq (abox Try.prog 28 (.agg ⟨[(i64 n), (i64 st), (i64 en), (.slice a1 l1.length c1), (.slice a2 l2.length c2)]⟩) M) (1, .val (pt b1 0), M2), qL 3 b1 0 M2 (i64 n), qF (decide (n < (1 : Int))), qF (decide (n < (1 : Int))), qL 3 b1 0 M2 (i64 n), qF (decide (n < (1 : Int))), qF (decide (n < (1 : Int))), qF (decide (n > (1000 : Int))), qF (decide (n > (1000 : Int))), qL 25 b1 3 M2 (.slice a1 l1.length c1), qF (decide (n > (1000 : Int))), .ln a1 l1.length c1, qF (decide (n > (1000 : Int))), qF (decide (n > (1000 : Int))), qF (decide ((((l1.length : Nat) : Int)) > (20000 : Int))), qF (decide ((((l1.length : Nat) : Int)) > (20000 : Int))), qL 26 b1 4 M2 (.slice a2 l2.length c2), qF (decide ((((l1.length : Nat) : Int)) > (20000 : Int))), .ln a2 l2.length c2, qF (decide ((((l1.length : Nat) : Int)) > (20000 : Int))), qF (decide ((((l1.length : Nat) : Int)) > (20000 : Int))), qF (decide ((((l2.length : Nat) : Int)) > (20000 : Int))), qL 28 b1 0 M2 (.agg ⟨[(i64 n), (i64 st), (i64 en), (.slice a1 l1.length c1), (.slice a2 l2.length c2)]⟩), qF (decide ((((l2.length : Nat) : Int)) > (20000 : Int))), qF (decide ((((l2.length : Nat) : Int)) > (20000 : Int))), qL 3 b1 1 M2 (i64 st), qF (decide ((((l2.length : Nat) : Int)) > (20000 : Int))), qC 51 [(.agg ⟨[(i64 n), (i64 st), (i64 en), (.slice a1 l1.length c1), (.slice a2 l2.length c2)]⟩), (i64 st)] M2 (.bool (inB2 n st)) M11, qF (decide ((((l2.length : Nat) : Int)) > (20000 : Int))), qF (decide ((((l2.length : Nat) : Int)) > (20000 : Int))), qF (!(inB2 n st)), qL 28 b1 0 M11 (.agg ⟨[(i64 n), (i64 st), (i64 en), (.slice a1 l1.length c1), (.slice a2 l2.length c2)]⟩), qF (!(inB2 n st)), qF (!(inB2 n st)), qL 3 b1 2 M11 (i64 en), qF (!(inB2 n st)), qC 51 [(.agg ⟨[(i64 n), (i64 st), (i64 en), (.slice a1 l1.length c1), (.slice a2 l2.length c2)]⟩), (i64 en)] M11 (.bool (inB2 n en)) M23, qF (!(inB2 n st)), qF (!(inB2 n st)), qF (!(inB2 n en)), .blk 0 (.loop (q24.loopAt 0)) Try.f24.ntmps [1, 3] [some (pt b1 0), some (i64 0)] M23 .normal (fr [(1, (pt b1 0))]) M33, .blk 2 (.loop (q24.loopAt 2)) Try.f24.ntmps [1, 5] [some (pt b1 0), some (i64 0)] M33 .normal (fr [(1, (pt b1 0))]) M39]) := by kernel_rfl
theorem w24_6 (n st en : Int) (a1 : Option Addr) (c1 : Nat) (a2 : Option Addr) (c2 : Nat) (l1 l2 : List (List Int))  {M : Mem} (hM : MemOk M) (hs1 : FlatAt 3 M (.slice a1 l1.length c1) l1) (hs2 : FlatAt 2 M (.slice a2 l2.length c2) l2) (cc0 : (decide (n < (1 : Int))) = false) (cc1 : (decide (n > (1000 : Int))) = false) (cc2 : (decide ((((l1.length : Nat) : Int)) > (20000 : Int))) = false) (cc3 : (decide ((((l2.length : Nat) : Int)) > (20000 : Int))) = false) (cc4 : (inB2 n st) = true) (cc5 : (inB2 n en) = true) (cc6 : (l1.any (mS n)) = false) (cc7 : (l2.any (mF n)) = false) : ∃ M', Ev Try.prog [] 24 [(.agg ⟨[(i64 n), (i64 st), (i64 en), (.slice a1 l1.length c1), (.slice a2 l2.length c2)]⟩)] M (.bool true) M' ∧ Ext M M' := by
  obtain ⟨b1, M2, eb3, em4, g5, E6, hM7⟩ := new_t hM ⟨[(i64 n), (i64 st), (i64 en), (.slice a1 l1.length c1), (.slice a2 l2.length c2)], 28, 5, 0, true⟩
  have nb1 : M.next ≤ b1 := by rw [← eb3]; exact (Ext.refl M).next
  have X8 := (Ext.refl M).trans E6
  obtain ⟨w9, N10, M11, p12, l13, e14, E15, hM16, Q17, G18⟩ := call_t (P := Try.prog) (GL := []) (f := 51) hM7 (con51 n st en a1 l1.length c1 a2 l2.length c2 st (MemOk.log hM7))
  have g19 := E15.old g5
  have ew9 : w9 = (.bool (inB2 n st)) := (Option.some.inj Q17).symm
  subst ew9
  have X20 := X8.trans E15
  obtain ⟨w21, N22, M23, p24, l25, e26, E27, hM28, Q29, G30⟩ := call_t (P := Try.prog) (GL := []) (f := 51) hM16 (con51 n st en a1 l1.length c1 a2 l2.length c2 en (MemOk.log hM16))
  have g31 := E27.old g19
  have ew21 : w21 = (.bool (inB2 n en)) := (Option.some.inj Q29).symm
  subst ew21
  have X32 := X20.trans E27
  obtain ⟨M33, hL34, E35, hM36⟩ := loop240_t b1 n st en a2 l2.length c2 hM28 (hs1.Ext X32) g31 cc6
  have g37 := E35.old g31
  have X38 := X32.trans E35
  obtain ⟨M39, hL40, E41, hM42⟩ := loop242_t b1 n st en a1 l1.length c1 hM36 (hs2.Ext X38) g37 cc7
  have g43 := E41.old g37
  have X44 := X38.trans E41
  exact ⟨M39, Ev.told_tmp noNumP mixedP Try.func24 q24_ok (by kernel_rfl) rK24 (fun B => specsB_ok (hS24_51 B) (k := [(0, bone (.loop (q24.loopAt 0)) Try.f24.ntmps [1, 3] [some (pt b1 0), some (i64 0)] M23 .normal (fr [(1, (pt b1 0))]) M33), (2, bone (.loop (q24.loopAt 2)) Try.f24.ntmps [1, 5] [some (pt b1 0), some (i64 0)] M33 .normal (fr [(1, (pt b1 0))]) M39)]) (fun p hp => by simp only [List.mem_cons, List.not_mem_nil, or_false] at hp; rcases hp with rfl | rfl <;> first | exact BlkOk.loop noNumP mixedP hL34 | exact BlkOk.loop noNumP mixedP hL40)) (fun _ h => blksF_two h) (w24_6_raw n st en a1 c1 a2 c2 l1 l2 M b1 M2 M11 M23 M33 M39) (hk (q_eq (by rw [← eb3, ← em4]; kernel_rfl) Nat.one_ne_zero) (hk (lC dC3 g5 rfl) (hk (bF cc0) (hk (bF cc0) (hk (lC dC3 g5 rfl) (hk (bF cc0) (hk (bF cc0) (hk (bF cc1) (hk (bF cc1) (hk (lC dC25 g5 rfl) (hk (bF cc1) (hk (lN hs1.ln) (hk (bF cc1) (hk (bF cc1) (hk (bF cc2) (hk (bF cc2) (hk (lC dC26 g5 rfl) (hk (bF cc2) (hk (lN hs2.ln) (hk (bF cc2) (hk (bF cc2) (hk (bF cc3) (hk (lA ⟨dA28, dS28⟩ g5 rfl) (hk (bF cc3) (hk (bF cc3) (hk (lC dC3 g5 rfl) (hk (bF cc3) (hk (q_call rfl p12 l13 e14) (hk (bF cc3) (hk (bF cc3) (hk (bF (by rw [cc4]; rfl)) (hk (lA ⟨dA28, dS28⟩ g19 rfl) (hk (bF (by rw [cc4]; rfl)) (hk (bF (by rw [cc4]; rfl)) (hk (lC dC3 g19 rfl) (hk (bF (by rw [cc4]; rfl)) (hk (q_call rfl p24 l25 e26) (hk (bF (by rw [cc4]; rfl)) (hk (bF (by rw [cc4]; rfl)) (hk (bF (by rw [cc5]; rfl)) (hk (q_blk rfl) (hk (q_blk rfl) hn)))))))))))))))))))))))))))))))))))))))))), X44⟩
theorem w24_7_raw (n st en : Int) (a1 : Option Addr) (c1 : Nat) (a2 : Option Addr) (c2 : Nat) (l1 l2 : List (List Int))  (M : Mem) (b1 : Nat) (M2 : Mem) (M11 : Mem) (M23 : Mem) : oT Try.prog [] 40 Try.f24 q24 [(.agg ⟨[(i64 n), (i64 st), (i64 en), (.slice a1 l1.length c1), (.slice a2 l2.length c2)]⟩)] M [ttV 1 (pt b1 0) M2, ttL 7 (i64 n), ttF 12, ttF 14, ttL 15 (i64 n), ttF 16, ttF 19, ttF 22, ttF 24, ttL 25 (.slice a1 l1.length c1), ttF 26, ttT 27, ttF 28, ttF 31, ttF 34, ttF 36, ttL 37 (.slice a2 l2.length c2), ttF 38, ttT 39, ttF 40, ttF 43, ttF 46, ttL 47 (.agg ⟨[(i64 n), (i64 st), (i64 en), (.slice a1 l1.length c1), (.slice a2 l2.length c2)]⟩), ttF 48, ttF 50, ttL 51 (i64 st), ttF 52, ttV 53 (.bool (inB2 n st)) M11, ttF 54, ttF 57, ttF 60, ttL 61 (.agg ⟨[(i64 n), (i64 st), (i64 en), (.slice a1 l1.length c1), (.slice a2 l2.length c2)]⟩), ttF 62, ttF 64, ttL 65 (i64 en), ttF 66, ttV 67 (.bool (inB2 n en)) M23, ttF 68, ttF 71, ttT 72] 2 = some (.ret, some (.bool false), M23, [.eq (abox Try.prog 28 (.agg ⟨[(i64 n), (i64 st), (i64 en), (.slice a1 l1.length c1), (.slice a2 l2.length c2)]⟩) M) (1, .val (pt b1 0), M2), qL 3 b1 0 M2 (i64 n), qF (decide (n < (1 : Int))), qF (decide (n < (1 : Int))), qL 3 b1 0 M2 (i64 n), qF (decide (n < (1 : Int))), qF (decide (n < (1 : Int))), qF (decide (n > (1000 : Int))), qF (decide (n > (1000 : Int))), qL 25 b1 3 M2 (.slice a1 l1.length c1), qF (decide (n > (1000 : Int))), .ln a1 l1.length c1, qF (decide (n > (1000 : Int))), qF (decide (n > (1000 : Int))), qF (decide ((((l1.length : Nat) : Int)) > (20000 : Int))), qF (decide ((((l1.length : Nat) : Int)) > (20000 : Int))), qL 26 b1 4 M2 (.slice a2 l2.length c2), qF (decide ((((l1.length : Nat) : Int)) > (20000 : Int))), .ln a2 l2.length c2, qF (decide ((((l1.length : Nat) : Int)) > (20000 : Int))), qF (decide ((((l1.length : Nat) : Int)) > (20000 : Int))), qF (decide ((((l2.length : Nat) : Int)) > (20000 : Int))), qL 28 b1 0 M2 (.agg ⟨[(i64 n), (i64 st), (i64 en), (.slice a1 l1.length c1), (.slice a2 l2.length c2)]⟩), qF (decide ((((l2.length : Nat) : Int)) > (20000 : Int))), qF (decide ((((l2.length : Nat) : Int)) > (20000 : Int))), qL 3 b1 1 M2 (i64 st), qF (decide ((((l2.length : Nat) : Int)) > (20000 : Int))), qC 51 [(.agg ⟨[(i64 n), (i64 st), (i64 en), (.slice a1 l1.length c1), (.slice a2 l2.length c2)]⟩), (i64 st)] M2 (.bool (inB2 n st)) M11, qF (decide ((((l2.length : Nat) : Int)) > (20000 : Int))), qF (decide ((((l2.length : Nat) : Int)) > (20000 : Int))), qF (!(inB2 n st)), qL 28 b1 0 M11 (.agg ⟨[(i64 n), (i64 st), (i64 en), (.slice a1 l1.length c1), (.slice a2 l2.length c2)]⟩), qF (!(inB2 n st)), qF (!(inB2 n st)), qL 3 b1 2 M11 (i64 en), qF (!(inB2 n st)), qC 51 [(.agg ⟨[(i64 n), (i64 st), (i64 en), (.slice a1 l1.length c1), (.slice a2 l2.length c2)]⟩), (i64 en)] M11 (.bool (inB2 n en)) M23, qF (!(inB2 n st)), qF (!(inB2 n st)), qT (!(inB2 n en))]) := by kernel_rfl
theorem w24_7 (n st en : Int) (a1 : Option Addr) (c1 : Nat) (a2 : Option Addr) (c2 : Nat) (l1 l2 : List (List Int))  {M : Mem} (hM : MemOk M) (hs1 : FlatAt 3 M (.slice a1 l1.length c1) l1) (hs2 : FlatAt 2 M (.slice a2 l2.length c2) l2) (cc0 : (decide (n < (1 : Int))) = false) (cc1 : (decide (n > (1000 : Int))) = false) (cc2 : (decide ((((l1.length : Nat) : Int)) > (20000 : Int))) = false) (cc3 : (decide ((((l2.length : Nat) : Int)) > (20000 : Int))) = false) (cc4 : (inB2 n st) = true) (cc5 : (inB2 n en) = false) : ∃ M', Ev Try.prog [] 24 [(.agg ⟨[(i64 n), (i64 st), (i64 en), (.slice a1 l1.length c1), (.slice a2 l2.length c2)]⟩)] M (.bool false) M' ∧ Ext M M' := by
  obtain ⟨b1, M2, eb3, em4, g5, E6, hM7⟩ := new_t hM ⟨[(i64 n), (i64 st), (i64 en), (.slice a1 l1.length c1), (.slice a2 l2.length c2)], 28, 5, 0, true⟩
  have nb1 : M.next ≤ b1 := by rw [← eb3]; exact (Ext.refl M).next
  have X8 := (Ext.refl M).trans E6
  obtain ⟨w9, N10, M11, p12, l13, e14, E15, hM16, Q17, G18⟩ := call_t (P := Try.prog) (GL := []) (f := 51) hM7 (con51 n st en a1 l1.length c1 a2 l2.length c2 st (MemOk.log hM7))
  have g19 := E15.old g5
  have ew9 : w9 = (.bool (inB2 n st)) := (Option.some.inj Q17).symm
  subst ew9
  have X20 := X8.trans E15
  obtain ⟨w21, N22, M23, p24, l25, e26, E27, hM28, Q29, G30⟩ := call_t (P := Try.prog) (GL := []) (f := 51) hM16 (con51 n st en a1 l1.length c1 a2 l2.length c2 en (MemOk.log hM16))
  have g31 := E27.old g19
  have ew21 : w21 = (.bool (inB2 n en)) := (Option.some.inj Q29).symm
  subst ew21
  have X32 := X20.trans E27
  exact ⟨M23, Ev.told_tmp noNumP mixedP Try.func24 q24_ok (by kernel_rfl) rK24 (fun B => specsB_ok (k := []) (hS24_51 B) (fun p hp => by cases hp)) (fun _ _ => rfl) (w24_7_raw n st en a1 c1 a2 c2 l1 l2 M b1 M2 M11 M23) (hk (q_eq (by rw [← eb3, ← em4]; kernel_rfl) Nat.one_ne_zero) (hk (lC dC3 g5 rfl) (hk (bF cc0) (hk (bF cc0) (hk (lC dC3 g5 rfl) (hk (bF cc0) (hk (bF cc0) (hk (bF cc1) (hk (bF cc1) (hk (lC dC25 g5 rfl) (hk (bF cc1) (hk (lN hs1.ln) (hk (bF cc1) (hk (bF cc1) (hk (bF cc2) (hk (bF cc2) (hk (lC dC26 g5 rfl) (hk (bF cc2) (hk (lN hs2.ln) (hk (bF cc2) (hk (bF cc2) (hk (bF cc3) (hk (lA ⟨dA28, dS28⟩ g5 rfl) (hk (bF cc3) (hk (bF cc3) (hk (lC dC3 g5 rfl) (hk (bF cc3) (hk (q_call rfl p12 l13 e14) (hk (bF cc3) (hk (bF cc3) (hk (bF (by rw [cc4]; rfl)) (hk (lA ⟨dA28, dS28⟩ g19 rfl) (hk (bF (by rw [cc4]; rfl)) (hk (bF (by rw [cc4]; rfl)) (hk (lC dC3 g19 rfl) (hk (bF (by rw [cc4]; rfl)) (hk (q_call rfl p24 l25 e26) (hk (bF (by rw [cc4]; rfl)) (hk (bF (by rw [cc4]; rfl)) (hk (bT (by rw [cc5]; rfl)) hn)))))))))))))))))))))))))))))))))))))))), X32⟩
theorem w24_8_raw (n st en : Int) (a1 : Option Addr) (c1 : Nat) (a2 : Option Addr) (c2 : Nat) (l1 l2 : List (List Int))  (M : Mem) (b1 : Nat) (M2 : Mem) (M11 : Mem) : oT Try.prog [] 40 Try.f24 q24 [(.agg ⟨[(i64 n), (i64 st), (i64 en), (.slice a1 l1.length c1), (.slice a2 l2.length c2)]⟩)] M [ttV 1 (pt b1 0) M2, ttL 7 (i64 n), ttF 12, ttF 14, ttL 15 (i64 n), ttF 16, ttF 19, ttF 22, ttF 24, ttL 25 (.slice a1 l1.length c1), ttF 26, ttT 27, ttF 28, ttF 31, ttF 34, ttF 36, ttL 37 (.slice a2 l2.length c2), ttF 38, ttT 39, ttF 40, ttF 43, ttF 46, ttL 47 (.agg ⟨[(i64 n), (i64 st), (i64 en), (.slice a1 l1.length c1), (.slice a2 l2.length c2)]⟩), ttF 48, ttF 50, ttL 51 (i64 st), ttF 52, ttV 53 (.bool (inB2 n st)) M11, ttF 54, ttF 57, ttT 60, ttT 62, ttT 64, ttT 66, ttT 68, ttT 71] 2 = some (.ret, some (.bool false), M11, [.eq (abox Try.prog 28 (.agg ⟨[(i64 n), (i64 st), (i64 en), (.slice a1 l1.length c1), (.slice a2 l2.length c2)]⟩) M) (1, .val (pt b1 0), M2), qL 3 b1 0 M2 (i64 n), qF (decide (n < (1 : Int))), qF (decide (n < (1 : Int))), qL 3 b1 0 M2 (i64 n), qF (decide (n < (1 : Int))), qF (decide (n < (1 : Int))), qF (decide (n > (1000 : Int))), qF (decide (n > (1000 : Int))), qL 25 b1 3 M2 (.slice a1 l1.length c1), qF (decide (n > (1000 : Int))), .ln a1 l1.length c1, qF (decide (n > (1000 : Int))), qF (decide (n > (1000 : Int))), qF (decide ((((l1.length : Nat) : Int)) > (20000 : Int))), qF (decide ((((l1.length : Nat) : Int)) > (20000 : Int))), qL 26 b1 4 M2 (.slice a2 l2.length c2), qF (decide ((((l1.length : Nat) : Int)) > (20000 : Int))), .ln a2 l2.length c2, qF (decide ((((l1.length : Nat) : Int)) > (20000 : Int))), qF (decide ((((l1.length : Nat) : Int)) > (20000 : Int))), qF (decide ((((l2.length : Nat) : Int)) > (20000 : Int))), qL 28 b1 0 M2 (.agg ⟨[(i64 n), (i64 st), (i64 en), (.slice a1 l1.length c1), (.slice a2 l2.length c2)]⟩), qF (decide ((((l2.length : Nat) : Int)) > (20000 : Int))), qF (decide ((((l2.length : Nat) : Int)) > (20000 : Int))), qL 3 b1 1 M2 (i64 st), qF (decide ((((l2.length : Nat) : Int)) > (20000 : Int))), qC 51 [(.agg ⟨[(i64 n), (i64 st), (i64 en), (.slice a1 l1.length c1), (.slice a2 l2.length c2)]⟩), (i64 st)] M2 (.bool (inB2 n st)) M11, qF (decide ((((l2.length : Nat) : Int)) > (20000 : Int))), qF (decide ((((l2.length : Nat) : Int)) > (20000 : Int))), qT (!(inB2 n st)), qT (!(inB2 n st)), qT (!(inB2 n st)), qT (!(inB2 n st)), qT (!(inB2 n st)), qT (!(inB2 n st))]) := by kernel_rfl
theorem w24_8 (n st en : Int) (a1 : Option Addr) (c1 : Nat) (a2 : Option Addr) (c2 : Nat) (l1 l2 : List (List Int))  {M : Mem} (hM : MemOk M) (hs1 : FlatAt 3 M (.slice a1 l1.length c1) l1) (hs2 : FlatAt 2 M (.slice a2 l2.length c2) l2) (cc0 : (decide (n < (1 : Int))) = false) (cc1 : (decide (n > (1000 : Int))) = false) (cc2 : (decide ((((l1.length : Nat) : Int)) > (20000 : Int))) = false) (cc3 : (decide ((((l2.length : Nat) : Int)) > (20000 : Int))) = false) (cc4 : (inB2 n st) = false) : ∃ M', Ev Try.prog [] 24 [(.agg ⟨[(i64 n), (i64 st), (i64 en), (.slice a1 l1.length c1), (.slice a2 l2.length c2)]⟩)] M (.bool false) M' ∧ Ext M M' := by
  obtain ⟨b1, M2, eb3, em4, g5, E6, hM7⟩ := new_t hM ⟨[(i64 n), (i64 st), (i64 en), (.slice a1 l1.length c1), (.slice a2 l2.length c2)], 28, 5, 0, true⟩
  have nb1 : M.next ≤ b1 := by rw [← eb3]; exact (Ext.refl M).next
  have X8 := (Ext.refl M).trans E6
  obtain ⟨w9, N10, M11, p12, l13, e14, E15, hM16, Q17, G18⟩ := call_t (P := Try.prog) (GL := []) (f := 51) hM7 (con51 n st en a1 l1.length c1 a2 l2.length c2 st (MemOk.log hM7))
  have g19 := E15.old g5
  have ew9 : w9 = (.bool (inB2 n st)) := (Option.some.inj Q17).symm
  subst ew9
  have X20 := X8.trans E15
  exact ⟨M11, Ev.told_tmp noNumP mixedP Try.func24 q24_ok (by kernel_rfl) rK24 (fun B => specsB_ok (k := []) (hS24_51 B) (fun p hp => by cases hp)) (fun _ _ => rfl) (w24_8_raw n st en a1 c1 a2 c2 l1 l2 M b1 M2 M11) (hk (q_eq (by rw [← eb3, ← em4]; kernel_rfl) Nat.one_ne_zero) (hk (lC dC3 g5 rfl) (hk (bF cc0) (hk (bF cc0) (hk (lC dC3 g5 rfl) (hk (bF cc0) (hk (bF cc0) (hk (bF cc1) (hk (bF cc1) (hk (lC dC25 g5 rfl) (hk (bF cc1) (hk (lN hs1.ln) (hk (bF cc1) (hk (bF cc1) (hk (bF cc2) (hk (bF cc2) (hk (lC dC26 g5 rfl) (hk (bF cc2) (hk (lN hs2.ln) (hk (bF cc2) (hk (bF cc2) (hk (bF cc3) (hk (lA ⟨dA28, dS28⟩ g5 rfl) (hk (bF cc3) (hk (bF cc3) (hk (lC dC3 g5 rfl) (hk (bF cc3) (hk (q_call rfl p12 l13 e14) (hk (bF cc3) (hk (bF cc3) (hk (bT (by rw [cc4]; rfl)) (hk (bT (by rw [cc4]; rfl)) (hk (bT (by rw [cc4]; rfl)) (hk (bT (by rw [cc4]; rfl)) (hk (bT (by rw [cc4]; rfl)) (hk (bT (by rw [cc4]; rfl)) hn)))))))))))))))))))))))))))))))))))), X20⟩
def chk2 (n st en : Int) (l1 l2 : List (List Int)) : Bool :=
  !(decide (n < (1 : Int)) || decide (n > (1000 : Int)) || decide (((l1.length : Nat) : Int) > (20000 : Int)) || decide (((l2.length : Nat) : Int) > (20000 : Int)) || !(inB2 n st) || !(inB2 n en)) && (!(l1.any (mS n)) && !(l2.any (mF n)))
theorem w24_all (n st en : Int) (a1 : Option Addr) (c1 : Nat) (a2 : Option Addr) (c2 : Nat) (l1 l2 : List (List Int)) {M : Mem} (hM : MemOk M) (hs1 : FlatAt 3 M (.slice a1 l1.length c1) l1) (hs2 : FlatAt 2 M (.slice a2 l2.length c2) l2) : ∃ M', Ev Try.prog [] 24 [(.agg ⟨[(i64 n), (i64 st), (i64 en), (.slice a1 l1.length c1), (.slice a2 l2.length c2)]⟩)] M (.bool (chk2 n st en l1 l2)) M' ∧ Ext M M' := by
  cases cc0 : (decide (n < (1 : Int))) with
  | true =>
    have h := w24_0 n st en a1 c1 a2 c2 l1 l2 hM hs1 hs2 cc0
    first | exact h | (have e : ((.bool (chk2 n st en l1 l2)) : Value) = (.bool false) := (by simp only [chk2, cc0, Bool.false_and, Bool.true_or, Bool.not_true] <;> rfl); rw [e]; exact h)
  | false =>
    cases cc1 : (decide (n > (1000 : Int))) with
    | true =>
      have h := w24_1 n st en a1 c1 a2 c2 l1 l2 hM hs1 hs2 cc0 cc1
      first | exact h | (have e : ((.bool (chk2 n st en l1 l2)) : Value) = (.bool false) := (by simp only [chk2, cc0, cc1, Bool.false_and, Bool.true_or, Bool.or_true, Bool.not_true] <;> rfl); rw [e]; exact h)
    | false =>
      cases cc2 : (decide ((((l1.length : Nat) : Int)) > (20000 : Int))) with
      | true =>
        have h := w24_2 n st en a1 c1 a2 c2 l1 l2 hM hs1 hs2 cc0 cc1 cc2
        first | exact h | (have e : ((.bool (chk2 n st en l1 l2)) : Value) = (.bool false) := (by simp only [chk2, cc0, cc1, cc2, Bool.false_and, Bool.true_or, Bool.or_true, Bool.or_false, Bool.not_true] <;> rfl); rw [e]; exact h)
      | false =>
        cases cc3 : (decide ((((l2.length : Nat) : Int)) > (20000 : Int))) with
        | true =>
          have h := w24_3 n st en a1 c1 a2 c2 l1 l2 hM hs1 hs2 cc0 cc1 cc2 cc3
          first | exact h | (have e : ((.bool (chk2 n st en l1 l2)) : Value) = (.bool false) := (by simp only [chk2, cc0, cc1, cc2, cc3, Bool.false_and, Bool.true_or, Bool.or_true, Bool.or_false, Bool.not_true] <;> rfl); rw [e]; exact h)
        | false =>
          cases cc4 : (inB2 n st) with
          | true =>
            cases cc5 : (inB2 n en) with
            | true =>
              cases cc6 : (l1.any (mS n)) with
              | true =>
                have h := w24_4 n st en a1 c1 a2 c2 l1 l2 hM hs1 hs2 cc0 cc1 cc2 cc3 cc4 cc5 cc6
                first | exact h | (have e : ((.bool (chk2 n st en l1 l2)) : Value) = (.bool false) := (by simp only [chk2, cc0, cc1, cc2, cc3, cc4, cc5, cc6, Bool.false_and, Bool.and_false, Bool.or_false, Bool.not_true, Bool.not_false] <;> rfl); rw [e]; exact h)
              | false =>
                cases cc7 : (l2.any (mF n)) with
                | true =>
                  have h := w24_5 n st en a1 c1 a2 c2 l1 l2 hM hs1 hs2 cc0 cc1 cc2 cc3 cc4 cc5 cc6 cc7
                  first | exact h | (have e : ((.bool (chk2 n st en l1 l2)) : Value) = (.bool false) := (by simp only [chk2, cc0, cc1, cc2, cc3, cc4, cc5, cc6, cc7, Bool.and_false, Bool.or_false, Bool.not_true, Bool.not_false] <;> rfl); rw [e]; exact h)
                | false =>
                  have h := w24_6 n st en a1 c1 a2 c2 l1 l2 hM hs1 hs2 cc0 cc1 cc2 cc3 cc4 cc5 cc6 cc7
                  first | exact h | (have e : ((.bool (chk2 n st en l1 l2)) : Value) = (.bool true) := (by simp only [chk2, cc0, cc1, cc2, cc3, cc4, cc5, cc6, cc7, Bool.and_true, Bool.or_false, Bool.not_true, Bool.not_false] <;> rfl); rw [e]; exact h)
            | false =>
              have h := w24_7 n st en a1 c1 a2 c2 l1 l2 hM hs1 hs2 cc0 cc1 cc2 cc3 cc4 cc5
              first | exact h | (have e : ((.bool (chk2 n st en l1 l2)) : Value) = (.bool false) := (by simp only [chk2, cc0, cc1, cc2, cc3, cc4, cc5, Bool.false_and, Bool.or_true, Bool.or_false, Bool.not_true, Bool.not_false] <;> rfl); rw [e]; exact h)
          | false =>
            have h := w24_8 n st en a1 c1 a2 c2 l1 l2 hM hs1 hs2 cc0 cc1 cc2 cc3 cc4
            first | exact h | (have e : ((.bool (chk2 n st en l1 l2)) : Value) = (.bool false) := (by simp only [chk2, cc0, cc1, cc2, cc3, cc4, Bool.false_and, Bool.true_or, Bool.or_true, Bool.or_false, Bool.not_true, Bool.not_false] <;> rfl); rw [e]; exact h)
theorem chk2_eq (n st en : Int) (l1 l2 : List (List Int)) : chk2 n st en l1 l2 = chkB n st en l1 l2 := by
  unfold chk2 chkB
  rw [mS_eq, mF_eq, inB2_not, inB2_not, Bool.not_not, Bool.not_not]
  simp only [Bool.not_or, Bool.and_assoc]
theorem con24 {x : Value} {n st en : Int} {l1 l2 : List (List Int)} {M : Mem} (hM : MemOk M) (h : NfaAt M x n st en l1 l2) : ∃ v M', Con Try.prog [] 24 Qchk [x] M v M' := by
  have h0 := h
  obtain ⟨L1, L2, rfl, h2, h3⟩ := h.at_
  obtain ⟨a1, c1, rfl⟩ := h2.form
  obtain ⟨a2, c2, rfl⟩ := h3.form
  obtain ⟨M', k1, k2⟩ := w24_all n st en a1 c1 a2 c2 l1 l2 hM h2 h3
  exact ⟨_, M', k1, k2, _, n, st, en, l1, l2, rfl, h0, by rw [chk2_eq]⟩
end Go.Proofs.Ytnpalannikpfoaa
