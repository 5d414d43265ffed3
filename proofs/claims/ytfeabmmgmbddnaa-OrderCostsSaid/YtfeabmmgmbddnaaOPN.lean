/-
  Package order: each of its laws for every argument; no conditions. The last text states which.
-/
import Derived.Test.YtfeabmmgmbddnaaOQ5
import Derived.Test.YtfeabmmgmbddnaaOPL
import Derived.Test.YtfeabmmgmbddnaaGAmBk
open Go Go.Am Go.Proofs
namespace Go.Proofs.Ytfeabmmgmbddnaa
set_option maxRecDepth 100000
set_option linter.unusedVariables false
set_option linter.unusedSimpArgs false
theorem linksL_len (a : AdjM) (n : Nat) : (linksL a n).length = n := by simp [linksL]
def costT : Option Int → Int → Int
  | some x, _ => modI x 2147483648
  | none, c => c
theorem costT_range {o : Option Int} {c : Int} (h1 : 0 ≤ c) (h2 : c ≤ 2147483647) : 0 ≤ costT o c ∧ costT o c ≤ 2147483647 := by
  cases o with
  | none => exact ⟨h1, h2⟩
  | some x => have := modI_range (x := x) (n := 2147483648) (by decide); simp only [costT]; omega
def turnE (cs : List Int) (i : Nat) (e : E4) : E4 := ⟨e.t, e.f, e.m, costT cs[i]? e.c⟩
def turnL (cs : List Int) (l : List E4) : List E4 := l.mapIdx (turnE cs)
theorem turnL_at (cs : List Int) (l : List E4) (j : Nat) : (turnL cs l)[j]? = (l[j]?).map (turnE cs j) := by unfold turnL; exact List.getElem?_mapIdx
theorem turnL_len (cs : List Int) (l : List E4) : (turnL cs l).length = l.length := by simp [turnL]
theorem turn_modes (cs : List Int) (l : List E4) (v : Int) : ∀ i, i ≤ l.length → refModes (turnL cs l) v i = refModes l v i
  | 0, _ => by simp [refModes]
  | i + 1, h => by
    have he : l[i]? = some l[i] := List.getElem?_eq_getElem (by omega)
    have ht : (turnL cs l)[i]? = some (turnE cs i l[i]) := by rw [turnL_at, he]; rfl
    rw [refModes_succ v he, refModes_succ v ht, turn_modes cs l v i (by omega)]
    simp only [turnE, Or.comm]
theorem turn_link (cs : List Int) (l : List E4) (v : Int) : linkR (turnL cs l) v = linkR l v := by
  unfold linkR
  rw [turnL_len, turn_modes cs l v _ (Nat.le_refl _)]
theorem turn_row (cs : List Int) (l : List E4) (v : Int) (i : Nat) : refRow .fr (turnL cs l) v i = refRow .to l v i ∧ refRow .to (turnL cs l) v i = refRow .fr l v i := by
  unfold refRow
  constructor <;> (refine fmap_congr fun j _ => ?_; rw [turnL_at]; cases l[j]? <;> rfl)
theorem turn_deg (cs : List Int) (l : List E4) (v : Int) : refDeg (turnL cs l) v = refDeg l v := by
  unfold refDeg
  rw [turnL_len, (turn_row cs l v _).1, (turn_row cs l v _).2, Nat.add_comm]
theorem turn_links (cs : List Int) (l : List E4) (n : Nat) : linksR (turnL cs l) n = linksR l n := by
  unfold linksR
  exact List.map_congr_left fun v _ => turn_link cs l _
theorem turn_order (cs : List Int) (l : List E4) (n : Nat) : orderR n (turnL cs l) = orderR n l := by
  unfold orderR orderTo
  rw [turnL_len]
  refine congrArg List.flatten (List.map_congr_left fun d _ => ?_)
  unfold refOrd
  refine fmap_congr fun v _ => ?_
  rw [turn_link, turn_deg]
theorem turn_chk {n : Int} {l : List E4} (cs : List Int) (h : chkN n l = true) : chkN n (turnL cs l) = true := by
  unfold chkN at h ⊢
  rw [turnL_len]
  simp only [Bool.and_eq_true, List.all_eq_true] at h ⊢
  refine ⟨h.1, fun e he => ?_⟩
  obtain ⟨i, hi, rfl⟩ := List.mem_mapIdx.1 he
  have hf := h.2 _ (List.getElem_mem hi)
  unfold fitE belB at hf ⊢
  simp only [Bool.and_eq_true, decide_eq_true_eq, turnE] at hf ⊢
  have hr := costT_range (o := cs[i]?) hf.1.2 hf.2
  exact ⟨⟨⟨⟨⟨decide_eq_true hf.1.1.1.2.1, decide_eq_true hf.1.1.1.2.2⟩, decide_eq_true hf.1.1.1.1.1, decide_eq_true hf.1.1.1.1.2⟩, decide_eq_true hf.1.1.2.1, decide_eq_true hf.1.1.2.2⟩, decide_eq_true hr.1⟩, decide_eq_true hr.2⟩
theorem turn_linksL {n : Nat} {l : List E4} (cs : List Int) (h : chkN ((n : Nat) : Int) l = true) : linksL (adjM n (turnL cs l)) n = linksL (adjM n l) n := by rw [links_eq h, links_eq (turn_chk cs h), turn_links]
theorem turn_orderL {n : Nat} {l : List E4} (cs : List Int) (h : chkN ((n : Nat) : Int) l = true) : orderL n l = orderL n (turnL cs l) := by rw [order_eq h, order_eq (turn_chk cs h), turn_order]
theorem hS5_18 (B : Bd) : ∀ p ∈ ([(18, pick (Con Try.prog [] 18 Q18))] : List (FuncId × (List Value → Mem → Option (Value × Mem)))), SpecOk Try.prog [] B p.1 p.2 := (fun p hp => by simp only [List.mem_cons, List.not_mem_nil, or_false] at hp; rcases hp with rfl <;> first | exact Con.ok _)
theorem r5y_raw (p q eb eo k ce i n : Nat) (S : Value) (l : List E4) (e : E4) (cb co kc cc : Nat) (x : Int) (M : Mem) (b1 : Nat) (M2 : Mem) (M13 : Mem) (M23 : Mem) (M33 : Mem) (M45 : Mem) (M58 : Mem) (b68 : Nat) (M69 : Mem) (t81 : Bool) (S82 : Value) (M83 : Mem) (M94 : Mem) : oR Try.prog [] 100 Try.f5 (q5.loopAt 0) [(3, (sli cb co kc cc)), (9, (pt q 0)), (10, (pt p 0)), (11, (i64 (((i : Nat) : Int))))] M [ttL 5 (sli eb eo k ce), ttT 10, ttL 14 (sli eb eo k ce), ttT 18, ttL 20 (.agg ⟨[(i64 e.f), (i64 e.t), (i64 e.m), (i64 e.c)]⟩), ttV 22 (pt b1 0) M2, ttS 24 M13, ttL 28 (i64 e.t), ttL 32 (i64 e.f), ttS 36 M23, ttS 40 M33, ttT 49, ttT 55, ttL 57 (i64 x), ttV 59 (i64 (modI x 2147483648)) M45, ttS 63 M58, ttL 67 S, ttL 69 (.agg ⟨[(i64 e.t), (i64 e.f), (i64 e.m), (i64 (modI x 2147483648))]⟩), ttV 71 (sli b68 0 1 2) M69, .at 73 ((bif t81 then 1 else 2), .val S82, M83), ttS 77 M94] [3, 9, 10, 11] = some (.normal, [some (sli cb co kc cc), some (pt q 0), some (pt p 0), some (i64 (IntKind.wrap .i64 ((((i : Nat) : Int)) + (1 : Int))))], M94, [qL 24 q 1 M (sli eb eo k ce), qT (decide ((((i : Nat) : Int)) < (((k : Nat) : Int)))), qL 24 q 1 M (sli eb eo k ce), .q (.inb (((i : Nat) : Int)) k) (ansB true), qL 37 eb (eo + (((i : Nat) : Int) : Int).toNat * 4) M (.agg ⟨[(i64 e.f), (i64 e.t), (i64 e.m), (i64 e.c)]⟩), .eq (aalloc Try.prog 37 M) (1, .val (pt b1 0), M2), qS 37 b1 0 (.agg ⟨[(i64 e.f), (i64 e.t), (i64 e.m), (i64 e.c)]⟩) M2 M13, qL 3 b1 1 M13 (i64 e.t), qL 3 b1 0 M13 (i64 e.f), qS 3 b1 0 (i64 e.t) M13 M23, qS 3 b1 1 (i64 e.f) M23 M33, qT (decide ((((i : Nat) : Int)) < (((kc : Nat) : Int)))), .q (.inb (((i : Nat) : Int)) kc) (ansB true), qL 3 cb (co + (((i : Nat) : Int) : Int).toNat * 1) M33 (i64 x), qC 18 [(i64 x), (i64 2147483648)] M33 (i64 (modI x 2147483648)) M45, qS 3 b1 3 (i64 (modI x 2147483648)) M45 M58, qL 24 p 1 M58 S, qL 37 b1 0 M58 (.agg ⟨[(i64 e.t), (i64 e.f), (i64 e.m), (i64 (modI x 2147483648))]⟩), .eq (abuildSlice Try.prog 24 1 [(0, (.agg ⟨[(i64 e.t), (i64 e.f), (i64 e.m), (i64 (modI x 2147483648))]⟩))] M58) (1, .val (sli b68 0 1 2), M69), .q (.append [24, 24] S (sli b68 0 1 2) M69) ((bif t81 then 1 else 2), .val S82, M83), qS 24 p 1 S82 M83 M94]) := by cases t81 <;> kernel_rfl
theorem r5y (p q eb eo k ce i n : Nat) (S : Value) (l : List E4) (e : E4) (cb co kc cc : Nat) (x : Int) {M M0 : Mem} (hM : MemOk M) (X0 : Ext M0 M) (np : M0.next ≤ p) (gp : M.get p = some ⟨[i64 ((n : Nat) : Int), S], 26, 2, 0, true⟩) (gq : M.get q = some ⟨[i64 ((n : Nat) : Int), (sli eb eo k ce)], 26, 2, 0, true⟩) (dpq : p ≠ q) (hA : AccC 37 4 M0 [p, q] l.length ((l.map eRow).flatten) S M) (hl30 : l.length < 1073741824) (cc0 : (decide ((((i : Nat) : Int)) < (((k : Nat) : Int)))) = true) (cc1 : (decide ((((i : Nat) : Int)) < (((kc : Nat) : Int)))) = true) (hld0 : aload Try.prog 37 ⟨eb, eo + (((i : Nat) : Int) : Int).toNat * 4, none⟩ M0 = some (.agg ⟨[(i64 e.f), (i64 e.t), (i64 e.m), (i64 e.c)]⟩)) (hld1 : aload Try.prog 3 ⟨cb, co + (((i : Nat) : Int) : Int).toNat * 1, none⟩ M0 = some (i64 x)) : ∃ T1 M' S82, Rd Try.prog [] (q5.loopAt 0) Try.f5.ntmps (fr [(3, (sli cb co kc cc)), (9, (pt q 0)), (10, (pt p 0)), (11, (i64 (((i : Nat) : Int))))]) M .normal T1 M' ∧ [3, 9, 10, 11].map T1.get = [some (sli cb co kc cc), some (pt q 0), some (pt p 0), some (i64 (IntKind.wrap .i64 ((((i : Nat) : Int)) + (1 : Int))))] ∧ Ext M0 M' ∧ MemOk M' ∧ M'.get p = some ⟨[(i64 (((n : Nat) : Int))), S82], 26, 2, 0, true⟩ ∧ M'.get q = some ⟨[(i64 (((n : Nat) : Int))), (sli eb eo k ce)], 26, 2, 0, true⟩ ∧ AccC 37 4 M0 [p, q] (l.length + 1) ((l.map eRow).flatten ++ [(i64 e.t), (i64 e.f), (i64 e.m), (i64 (modI x 2147483648))]) S82 M' := by
  obtain ⟨b1, M2, eb3, em4, g5, E6, hM7⟩ := new_t hM ⟨[(i64 0), (i64 0), (i64 0), (i64 0)], 37, 4, 0, true⟩
  have nb1 : M0.next ≤ b1 := by rw [← eb3]; exact X0.next
  have dpb1 : p ≠ b1 := by have := Mem.lt_of_get gp; omega
  have dqb1 : q ≠ b1 := by have := Mem.lt_of_get gq; omega
  have A8 := hA.new eb3 E6
  have g9 := E6.old gp
  have g10 := E6.old gq
  have X12 := X0.trans E6
  obtain ⟨M13, q14, g15, kp16, X17, hM18, nx19⟩ := store_t (o := 0) (v := (.agg ⟨[(i64 e.f), (i64 e.t), (i64 e.m), (i64 e.c)]⟩)) (new := [(i64 e.f), (i64 e.t), (i64 e.m), (i64 e.c)]) X12 nb1 hM7 dS37 g5 rfl rfl (Nat.zero_le _) (Nat.le_of_ble_eq_true rfl) rfl
  replace g15 : M13.get b1 = some ⟨[(i64 e.f), (i64 e.t), (i64 e.m), (i64 e.c)], 37, 4, 0, true⟩ := g15
  have A20 := A8.keep (by simp) (fun id h _ => kp16 id h)
  have g21 := (kp16 _ dpb1).trans g9
  have g22 := (kp16 _ dqb1).trans g10
  obtain ⟨M23, q24, g25, kp26, X27, hM28, nx29⟩ := store_t (o := 0) (v := (i64 e.t)) (new := [(i64 e.t), (i64 e.t), (i64 e.m), (i64 e.c)]) X17 nb1 hM18 dS3 g15 rfl rfl (Nat.zero_le _) (Nat.le_of_ble_eq_true rfl) rfl
  replace g25 : M23.get b1 = some ⟨[(i64 e.t), (i64 e.t), (i64 e.m), (i64 e.c)], 37, 4, 0, true⟩ := g25
  have A30 := A20.keep (by simp) (fun id h _ => kp26 id h)
  have g31 := (kp26 _ dpb1).trans g21
  have g32 := (kp26 _ dqb1).trans g22
  obtain ⟨M33, q34, g35, kp36, X37, hM38, nx39⟩ := store_t (o := 1) (v := (i64 e.f)) (new := [(i64 e.t), (i64 e.f), (i64 e.m), (i64 e.c)]) X27 nb1 hM28 dS3 g25 rfl rfl (Nat.zero_le _) (Nat.le_of_ble_eq_true rfl) rfl
  replace g35 : M33.get b1 = some ⟨[(i64 e.t), (i64 e.f), (i64 e.m), (i64 e.c)], 37, 4, 0, true⟩ := g35
  have A40 := A30.keep (by simp) (fun id h _ => kp36 id h)
  have g41 := (kp36 _ dpb1).trans g31
  have g42 := (kp36 _ dqb1).trans g32
  obtain ⟨w43, N44, M45, p46, l47, e48, E49, hM50, F51⟩ := call_fc (x := (x, 2147483648)) hM38 con18 (⟨⟨_, _, rfl, rfl, rfl⟩, rfl⟩)
  have A53 := A40.ext E49
  have g54 := E49.old g41
  have g55 := E49.old g42
  have g56 := E49.old g35
  have ew43 : w43 = (i64 (modI x 2147483648)) := F51
  subst ew43
  have X57 := X37.trans E49
  obtain ⟨M58, q59, g60, kp61, X62, hM63, nx64⟩ := store_t (o := 3) (v := (i64 (modI x 2147483648))) (new := [(i64 e.t), (i64 e.f), (i64 e.m), (i64 (modI x 2147483648))]) X57 nb1 hM50 dS3 g56 rfl rfl (Nat.zero_le _) (Nat.le_of_ble_eq_true rfl) rfl
  replace g60 : M58.get b1 = some ⟨[(i64 e.t), (i64 e.f), (i64 e.m), (i64 (modI x 2147483648))], 37, 4, 0, true⟩ := g60
  have A65 := A53.keep (by simp) (fun id h _ => kp61 id h)
  have g66 := (kp61 _ dpb1).trans g54
  have g67 := (kp61 _ dqb1).trans g55
  obtain ⟨b68, M69, eb70, em71, g72, E73, hM74⟩ := new_t hM63 ⟨[(i64 e.t), (i64 e.f), (i64 e.m), (i64 (modI x 2147483648))], 37, 4, 0, true⟩
  have nb68 : M0.next ≤ b68 := by rw [← eb70]; exact X62.next
  have dpb68 : p ≠ b68 := by have := Mem.lt_of_get g66; omega
  have dqb68 : q ≠ b68 := by have := Mem.lt_of_get g67; omega
  have db1b68 : b1 ≠ b68 := by have := Mem.lt_of_get g60; omega
  have A75 := A65.new eb70 E73
  have g76 := E73.old g66
  have g77 := E73.old g67
  have g78 := E73.old g60
  have X80 := X62.trans E73
  obtain ⟨t81, S82, M83, q84, X85, hM86, A87, kb88, ka89⟩ := accc_append (P := Try.prog) (sT := 24) (xT := 24) (y := 32) (c := 2) A75 X80 hM74 (by intro x hx; simp only [List.mem_cons, List.not_mem_nil, or_false] at hx; rcases hx with rfl | rfl | rfl | rfl <;> first | exact Mem.lt_of_get g72 | exact Mem.lt_of_get g78 | exact Mem.lt_of_get g76 | exact Mem.lt_of_get g77) (by kernel_rfl) (by kernel_rfl) (by kernel_rfl) (by kernel_rfl) (by decide) (by decide) rfl hl30 g72 (o := 0) (new := [(i64 e.t), (i64 e.f), (i64 e.m), (i64 (modI x 2147483648))]) rfl rfl rfl
  have g90 := kb88 _ _ g76 (by simp)
  have g91 := kb88 _ _ g77 (by simp)
  obtain ⟨M94, q95, g96, kp97, X98, hM99, nx100⟩ := store_t (o := 1) (v := S82) (new := [(i64 (((n : Nat) : Int))), S82]) X85 np hM86 dS24 g90 (by rw [cells_cell A87.isCell]; rfl) (by rw [cells_cell A87.isCell]; show (isCell _ && true) = true; rw [A87.isCell]; rfl) (Nat.zero_le _) (Nat.le_of_ble_eq_true rfl) (by rw [cells_cell A87.isCell]; rfl)
  replace g96 : M94.get p = some ⟨[(i64 (((n : Nat) : Int))), S82], 26, 2, 0, true⟩ := g96
  have A101 := A87.keep (by simp) (fun id h _ => kp97 id h)
  have g102 := (kp97 _ (Ne.symm dpq)).trans g91
  have hraw := r5y_raw p q eb eo k ce i n S l e cb co kc cc x M  b1 M2 M13 M23 M33 M45 M58 b68 M69 t81 S82 M83 M94
  obtain ⟨T1, h1, h2⟩ := Rd.told noNumP mixedP (fun B => specsB_ok (k := []) (hS5_18 B) (fun p hp => by cases hp)) (fun _ _ => rfl) hraw (hk (lC dC24 gq rfl) (hk (bT cc0) (hk (lC dC24 gq rfl) (hk (q_inb (by omega) (by simp at cc0; omega)) (hk (q_ld (aload_ext X0 hld0)) (hk (q_eq (by rw [← eb3, ← em4]; kernel_rfl) Nat.one_ne_zero) (hk (q_st q14) (hk (lC dC3 g15 rfl) (hk (lC dC3 g15 rfl) (hk (q_st q24) (hk (q_st q34) (hk (bT cc1) (hk (q_inb (by omega) (by simp at cc1; omega)) (hk (q_ld (aload_ext X37 hld1)) (hk (q_call rfl p46 l47 e48) (hk (q_st q59) (hk (lC dC24 g66 rfl) (hk (lA ⟨dA37, dS37⟩ g60 rfl) (hk (q_eq (by rw [← eb70, ← em71]; kernel_rfl) Nat.one_ne_zero) (hk (q_app q84 (by cases t81 <;> simp)) (hk (q_st q95) hn)))))))))))))))))))))
  exact ⟨T1, M94, S82, h1, h2, X98, hM99, g96, g102, A101.less (by intro x hx; simp only [List.mem_cons, List.not_mem_nil, or_false] at hx; rcases hx with rfl | rfl <;> simp)⟩
theorem r5n_raw (p q eb eo k ce i n : Nat) (S : Value) (l : List E4) (e : E4) (ac : Option Addr) (kc cc : Nat) (M : Mem) (b1 : Nat) (M2 : Mem) (M13 : Mem) (M23 : Mem) (M33 : Mem) (b43 : Nat) (M44 : Mem) (t56 : Bool) (S57 : Value) (M58 : Mem) (M69 : Mem) : oR Try.prog [] 100 Try.f5 (q5.loopAt 0) [(3, (.slice ac kc cc)), (9, (pt q 0)), (10, (pt p 0)), (11, (i64 (((i : Nat) : Int))))] M [ttL 5 (sli eb eo k ce), ttT 10, ttL 14 (sli eb eo k ce), ttT 18, ttL 20 (.agg ⟨[(i64 e.f), (i64 e.t), (i64 e.m), (i64 e.c)]⟩), ttV 22 (pt b1 0) M2, ttS 24 M13, ttL 28 (i64 e.t), ttL 32 (i64 e.f), ttS 36 M23, ttS 40 M33, ttT 46, ttF 49, ttL 53 S, ttL 55 (.agg ⟨[(i64 e.t), (i64 e.f), (i64 e.m), (i64 e.c)]⟩), ttV 57 (sli b43 0 1 2) M44, .at 59 ((bif t56 then 1 else 2), .val S57, M58), ttS 63 M69] [3, 9, 10, 11] = some (.normal, [some (.slice ac kc cc), some (pt q 0), some (pt p 0), some (i64 (IntKind.wrap .i64 ((((i : Nat) : Int)) + (1 : Int))))], M69, [qL 24 q 1 M (sli eb eo k ce), qT (decide ((((i : Nat) : Int)) < (((k : Nat) : Int)))), qL 24 q 1 M (sli eb eo k ce), .q (.inb (((i : Nat) : Int)) k) (ansB true), qL 37 eb (eo + (((i : Nat) : Int) : Int).toNat * 4) M (.agg ⟨[(i64 e.f), (i64 e.t), (i64 e.m), (i64 e.c)]⟩), .eq (aalloc Try.prog 37 M) (1, .val (pt b1 0), M2), qS 37 b1 0 (.agg ⟨[(i64 e.f), (i64 e.t), (i64 e.m), (i64 e.c)]⟩) M2 M13, qL 3 b1 1 M13 (i64 e.t), qL 3 b1 0 M13 (i64 e.f), qS 3 b1 0 (i64 e.t) M13 M23, qS 3 b1 1 (i64 e.f) M23 M33, .ln ac kc cc, qF (decide ((((i : Nat) : Int)) < (((kc : Nat) : Int)))), qL 24 p 1 M33 S, qL 37 b1 0 M33 (.agg ⟨[(i64 e.t), (i64 e.f), (i64 e.m), (i64 e.c)]⟩), .eq (abuildSlice Try.prog 24 1 [(0, (.agg ⟨[(i64 e.t), (i64 e.f), (i64 e.m), (i64 e.c)]⟩))] M33) (1, .val (sli b43 0 1 2), M44), .q (.append [24, 24] S (sli b43 0 1 2) M44) ((bif t56 then 1 else 2), .val S57, M58), qS 24 p 1 S57 M58 M69]) := by cases t56 <;> kernel_rfl
theorem r5n (p q eb eo k ce i n : Nat) (S : Value) (l : List E4) (e : E4) (ac : Option Addr) (kc cc : Nat) {M M0 : Mem} (hM : MemOk M) (X0 : Ext M0 M) (hlc : ac.isNone = true → kc = 0 ∧ cc = 0) (np : M0.next ≤ p) (gp : M.get p = some ⟨[i64 ((n : Nat) : Int), S], 26, 2, 0, true⟩) (gq : M.get q = some ⟨[i64 ((n : Nat) : Int), (sli eb eo k ce)], 26, 2, 0, true⟩) (dpq : p ≠ q) (hA : AccC 37 4 M0 [p, q] l.length ((l.map eRow).flatten) S M) (hl30 : l.length < 1073741824) (cc0 : (decide ((((i : Nat) : Int)) < (((k : Nat) : Int)))) = true) (cc1 : (decide ((((i : Nat) : Int)) < (((kc : Nat) : Int)))) = false) (hld0 : aload Try.prog 37 ⟨eb, eo + (((i : Nat) : Int) : Int).toNat * 4, none⟩ M0 = some (.agg ⟨[(i64 e.f), (i64 e.t), (i64 e.m), (i64 e.c)]⟩)) : ∃ T1 M' S57, Rd Try.prog [] (q5.loopAt 0) Try.f5.ntmps (fr [(3, (.slice ac kc cc)), (9, (pt q 0)), (10, (pt p 0)), (11, (i64 (((i : Nat) : Int))))]) M .normal T1 M' ∧ [3, 9, 10, 11].map T1.get = [some (.slice ac kc cc), some (pt q 0), some (pt p 0), some (i64 (IntKind.wrap .i64 ((((i : Nat) : Int)) + (1 : Int))))] ∧ Ext M0 M' ∧ MemOk M' ∧ M'.get p = some ⟨[(i64 (((n : Nat) : Int))), S57], 26, 2, 0, true⟩ ∧ M'.get q = some ⟨[(i64 (((n : Nat) : Int))), (sli eb eo k ce)], 26, 2, 0, true⟩ ∧ AccC 37 4 M0 [p, q] (l.length + 1) ((l.map eRow).flatten ++ [(i64 e.t), (i64 e.f), (i64 e.m), (i64 e.c)]) S57 M' := by
  obtain ⟨b1, M2, eb3, em4, g5, E6, hM7⟩ := new_t hM ⟨[(i64 0), (i64 0), (i64 0), (i64 0)], 37, 4, 0, true⟩
  have nb1 : M0.next ≤ b1 := by rw [← eb3]; exact X0.next
  have dpb1 : p ≠ b1 := by have := Mem.lt_of_get gp; omega
  have dqb1 : q ≠ b1 := by have := Mem.lt_of_get gq; omega
  have A8 := hA.new eb3 E6
  have g9 := E6.old gp
  have g10 := E6.old gq
  have X12 := X0.trans E6
  obtain ⟨M13, q14, g15, kp16, X17, hM18, nx19⟩ := store_t (o := 0) (v := (.agg ⟨[(i64 e.f), (i64 e.t), (i64 e.m), (i64 e.c)]⟩)) (new := [(i64 e.f), (i64 e.t), (i64 e.m), (i64 e.c)]) X12 nb1 hM7 dS37 g5 rfl rfl (Nat.zero_le _) (Nat.le_of_ble_eq_true rfl) rfl
  replace g15 : M13.get b1 = some ⟨[(i64 e.f), (i64 e.t), (i64 e.m), (i64 e.c)], 37, 4, 0, true⟩ := g15
  have A20 := A8.keep (by simp) (fun id h _ => kp16 id h)
  have g21 := (kp16 _ dpb1).trans g9
  have g22 := (kp16 _ dqb1).trans g10
  obtain ⟨M23, q24, g25, kp26, X27, hM28, nx29⟩ := store_t (o := 0) (v := (i64 e.t)) (new := [(i64 e.t), (i64 e.t), (i64 e.m), (i64 e.c)]) X17 nb1 hM18 dS3 g15 rfl rfl (Nat.zero_le _) (Nat.le_of_ble_eq_true rfl) rfl
  replace g25 : M23.get b1 = some ⟨[(i64 e.t), (i64 e.t), (i64 e.m), (i64 e.c)], 37, 4, 0, true⟩ := g25
  have A30 := A20.keep (by simp) (fun id h _ => kp26 id h)
  have g31 := (kp26 _ dpb1).trans g21
  have g32 := (kp26 _ dqb1).trans g22
  obtain ⟨M33, q34, g35, kp36, X37, hM38, nx39⟩ := store_t (o := 1) (v := (i64 e.f)) (new := [(i64 e.t), (i64 e.f), (i64 e.m), (i64 e.c)]) X27 nb1 hM28 dS3 g25 rfl rfl (Nat.zero_le _) (Nat.le_of_ble_eq_true rfl) rfl
  replace g35 : M33.get b1 = some ⟨[(i64 e.t), (i64 e.f), (i64 e.m), (i64 e.c)], 37, 4, 0, true⟩ := g35
  have A40 := A30.keep (by simp) (fun id h _ => kp36 id h)
  have g41 := (kp36 _ dpb1).trans g31
  have g42 := (kp36 _ dqb1).trans g32
  obtain ⟨b43, M44, eb45, em46, g47, E48, hM49⟩ := new_t hM38 ⟨[(i64 e.t), (i64 e.f), (i64 e.m), (i64 e.c)], 37, 4, 0, true⟩
  have nb43 : M0.next ≤ b43 := by rw [← eb45]; exact X37.next
  have dpb43 : p ≠ b43 := by have := Mem.lt_of_get g41; omega
  have dqb43 : q ≠ b43 := by have := Mem.lt_of_get g42; omega
  have db1b43 : b1 ≠ b43 := by have := Mem.lt_of_get g35; omega
  have A50 := A40.new eb45 E48
  have g51 := E48.old g41
  have g52 := E48.old g42
  have g53 := E48.old g35
  have X55 := X37.trans E48
  obtain ⟨t56, S57, M58, q59, X60, hM61, A62, kb63, ka64⟩ := accc_append (P := Try.prog) (sT := 24) (xT := 24) (y := 32) (c := 2) A50 X55 hM49 (by intro x hx; simp only [List.mem_cons, List.not_mem_nil, or_false] at hx; rcases hx with rfl | rfl | rfl | rfl <;> first | exact Mem.lt_of_get g47 | exact Mem.lt_of_get g53 | exact Mem.lt_of_get g51 | exact Mem.lt_of_get g52) (by kernel_rfl) (by kernel_rfl) (by kernel_rfl) (by kernel_rfl) (by decide) (by decide) rfl hl30 g47 (o := 0) (new := [(i64 e.t), (i64 e.f), (i64 e.m), (i64 e.c)]) rfl rfl rfl
  have g65 := kb63 _ _ g51 (by simp)
  have g66 := kb63 _ _ g52 (by simp)
  obtain ⟨M69, q70, g71, kp72, X73, hM74, nx75⟩ := store_t (o := 1) (v := S57) (new := [(i64 (((n : Nat) : Int))), S57]) X60 np hM61 dS24 g65 (by rw [cells_cell A62.isCell]; rfl) (by rw [cells_cell A62.isCell]; show (isCell _ && true) = true; rw [A62.isCell]; rfl) (Nat.zero_le _) (Nat.le_of_ble_eq_true rfl) (by rw [cells_cell A62.isCell]; rfl)
  replace g71 : M69.get p = some ⟨[(i64 (((n : Nat) : Int))), S57], 26, 2, 0, true⟩ := g71
  have A76 := A62.keep (by simp) (fun id h _ => kp72 id h)
  have g77 := (kp72 _ (Ne.symm dpq)).trans g66
  have hraw := r5n_raw p q eb eo k ce i n S l e ac kc cc M  b1 M2 M13 M23 M33 b43 M44 t56 S57 M58 M69
  obtain ⟨T1, h1, h2⟩ := Rd.told noNumP mixedP (specs_none Try.prog) (fun _ _ => rfl) hraw (hk (lC dC24 gq rfl) (hk (bT cc0) (hk (lC dC24 gq rfl) (hk (q_inb (by omega) (by simp at cc0; omega)) (hk (q_ld (aload_ext X0 hld0)) (hk (q_eq (by rw [← eb3, ← em4]; kernel_rfl) Nat.one_ne_zero) (hk (q_st q14) (hk (lC dC3 g15 rfl) (hk (lC dC3 g15 rfl) (hk (q_st q24) (hk (q_st q34) (hk (lN hlc) (hk (bF cc1) (hk (lC dC24 g41 rfl) (hk (lA ⟨dA37, dS37⟩ g35 rfl) (hk (q_eq (by rw [← eb45, ← em46]; kernel_rfl) Nat.one_ne_zero) (hk (q_app q59 (by cases t56 <;> simp)) (hk (q_st q70) hn))))))))))))))))))
  exact ⟨T1, M69, S57, h1, h2, X73, hM74, g71, g77, A76.less (by intro x hx; simp only [List.mem_cons, List.not_mem_nil, or_false] at hx; rcases hx with rfl | rfl <;> simp)⟩
theorem r5x_raw (p q : Nat) (ac ae : Option Addr) (kc cc k ce i n : Nat) (M : Mem)  : oR Try.prog [] 60 Try.f5 (q5.loopAt 0) [(3, (.slice ac kc cc)), (9, (pt q 0)), (10, (pt p 0)), (11, (i64 (((i : Nat) : Int))))] M [ttL 5 (.slice ae k ce), ttT 7, ttF 10] [9, 10] = some ((.exit 0), [some (pt q 0), some (pt p 0)], M, [qL 24 q 1 M (.slice ae k ce), .ln ae k ce, qF (decide ((((i : Nat) : Int)) < (((k : Nat) : Int))))]) := by kernel_rfl
theorem r5x (p q : Nat) (ac ae : Option Addr) (kc cc k ce i n : Nat) {M : Mem} (hln : ae.isNone = true → k = 0 ∧ ce = 0) (gq : M.get q = some ⟨[i64 ((n : Nat) : Int), (.slice ae k ce)], 26, 2, 0, true⟩) (cc0 : (decide ((((i : Nat) : Int)) < (((k : Nat) : Int)))) = false) : ∃ T1, Rd Try.prog [] (q5.loopAt 0) Try.f5.ntmps (fr [(3, (.slice ac kc cc)), (9, (pt q 0)), (10, (pt p 0)), (11, (i64 (((i : Nat) : Int))))]) M (.exit 0) T1 M ∧ [9, 10].map T1.get = [some (pt q 0), some (pt p 0)] := by
  have hraw := r5x_raw p q ac ae kc cc k ce i n M  
  obtain ⟨T1, h1, h2⟩ := Rd.told noNumP mixedP (specs_none Try.prog) (fun _ _ => rfl) hraw (hk (lC dC24 gq rfl) (hk (lN hln) (hk (bF cc0) hn)))
  exact ⟨T1, h1, h2⟩
theorem loop5 {p q : Nat} {ac ae : Option Addr} {cc ce n : Nat} {cs : List Int} {l : List E4} {M0 M : Mem} (hM : MemOk M) (X : Ext M0 M) (he : pEdges l (.slice ae l.length ce) M0) (hs : pInts cs (.slice ac cs.length cc) M0) (np : M0.next ≤ p) (gp : M.get p = some ⟨[i64 ((n : Nat) : Int), sln], 26, 2, 0, true⟩) (gq : M.get q = some ⟨[i64 ((n : Nat) : Int), .slice ae l.length ce], 26, 2, 0, true⟩) (dpq : p ≠ q) (hl : l.length ≤ 400) :
    ∃ M', LoopR Try.prog [] (q5.loopAt 0) Try.f5.ntmps (fr [(3, .slice ac cs.length cc), (9, pt q 0), (10, pt p 0), (11, i64 ((0 : Nat) : Int))]) M (.exit 0) (fr [(9, pt q 0), (10, pt p 0)]) M' ∧ Ext M0 M' ∧ MemOk M' ∧ M'.get q = some ⟨[i64 ((n : Nat) : Int), .slice ae l.length ce], 26, 2, 0, true⟩ ∧ MkE M0 M' p q ((n : Nat) : Int) (turnL cs l) := by
  have hlen := hs.len
  obtain ⟨_, M', h1, h2, h3, h4, h5⟩ := LoopR.for (P := Try.prog) (GL := []) (b := q5.loopAt 0) (nt := Try.f5.ntmps) (id := 0) (σ := Unit) (n := l.length) (Inv := fun i _ M1 => Ext M0 M1 ∧ MemOk M1 ∧ M1.get q = some ⟨[i64 ((n : Nat) : Int), .slice ae l.length ce], 26, 2, 0, true⟩ ∧ MkE M0 M1 p q ((n : Nat) : Int) (turnL cs (l.take i)))
    (F := fun i _ => [(3, .slice ac cs.length cc), (9, pt q 0), (10, pt p 0), (11, i64 ((i : Nat) : Int))])
    (O := fun _ => [(9, pt q 0), (10, pt p 0)])
    (by
      rintro i _ M1 hi ⟨X1, hM1, hg, S, hgp, hA⟩
      obtain ⟨eb, eo, rfl, _⟩ := form_pos he (by omega)
      have ht : l[i]? = some l[i] := List.getElem?_eq_getElem hi
      have hlt : (turnL cs (l.take i)).length = i := by rw [turnL_len, List.length_take]; omega
      have hst : turnL cs (l.take (i + 1)) = turnL cs (l.take i) ++ [turnE cs i l[i]] := by
        unfold turnL
        rw [List.take_succ_eq_append_getElem hi, List.mapIdx_concat, List.length_take, Nat.min_eq_left (Nat.le_of_lt hi)]
      have hle := ld_row (P := Try.prog) (ty := 37) he ht dA37 dS37
      rw [hst]
      unfold MkE
      rw [List.length_append, List.map_append, List.flatten_append]
      by_cases hc : i < cs.length
      · obtain ⟨cb, co, rfl, _⟩ := form_pos hs (by omega)
        have hx : cs[i]? = some cs[i] := List.getElem?_eq_getElem hc
        obtain ⟨T1, M2, S', h1, h2, h3, h4, h5, h6, h7⟩ := r5y p q eb eo l.length ce i n S (turnL cs (l.take i)) l[i] cb co cs.length cc cs[i] hM1 X1 np hgp hg dpq hA (by omega) (decide_eq_true (by omega)) (decide_eq_true (by omega)) hle (ld_one (P := Try.prog) (ty := 3) hs hx rfl dC3)
        rw [wrap_succ (by omega)] at h2
        refine ⟨(), T1, M2, h1, h2, h3, h4, h6, S', h5, ?_⟩
        have ee : turnE cs i l[i] = ⟨l[i].t, l[i].f, l[i].m, modI cs[i] 2147483648⟩ := by unfold turnE; rw [hx]; rfl
        rw [ee]
        simpa [eRow] using h7
      · obtain ⟨T1, M2, S', h1, h2, h3, h4, h5, h6, h7⟩ := r5n p q eb eo l.length ce i n S (turnL cs (l.take i)) l[i] ac cs.length cc hM1 X1 hs.ln np hgp hg dpq hA (by omega) (decide_eq_true (by omega)) (decide_eq_false (by omega)) hle
        rw [wrap_succ (by omega)] at h2
        refine ⟨(), T1, M2, h1, h2, h3, h4, h6, S', h5, ?_⟩
        have ee : turnE cs i l[i] = ⟨l[i].t, l[i].f, l[i].m, l[i].c⟩ := by unfold turnE; rw [List.getElem?_eq_none (by omega)]; rfl
        rw [ee]
        simpa [eRow] using h7)
    (by
      rintro _ M1 ⟨X1, hM1, hg, hA⟩
      exact r5x p q ac ae cs.length cc l.length ce l.length n he.ln hg (decide_eq_false (by omega)))
    l.length 0 (by omega) (s := ()) (M := M) ⟨X, hM, gq, sln, gp, .inl ⟨rfl, rfl, rfl⟩⟩
  rw [List.take_length] at h5
  exact ⟨M', h1, h2, h3, h4, h5⟩
theorem r52_raw (q p bb o m c bb2 o2 c2 i : Nat) (q_ : Bool) (M : Mem)  : oR Try.prog [] 60 Try.f5 (q5.loopAt 2) [(9, (pt q 0)), (10, (pt p 0)), (13, (sli bb o m c)), (14, (sli bb2 o2 m c2)), (15, (i64 (((i : Nat) : Int))))] M [ttT 8, ttT 14, ttL 16 (.bool q_), ttT 22, ttL 24 (.bool q_), ttF 27] [9, 10, 13, 14, 15] = some (.normal, [some (pt q 0), some (pt p 0), some (sli bb o m c), some (sli bb2 o2 m c2), some (i64 (IntKind.wrap .i64 ((((i : Nat) : Int)) + (1 : Int))))], M, [qT (decide ((((i : Nat) : Int)) < (((m : Nat) : Int)))), .q (.inb (((i : Nat) : Int)) m) (ansB true), qL 4 bb (o + (((i : Nat) : Int) : Int).toNat * 1) M (.bool q_), .q (.inb (((i : Nat) : Int)) m) (ansB true), qL 4 bb2 (o2 + (((i : Nat) : Int) : Int).toNat * 1) M (.bool q_), qF (!(q_ == q_))]) := by kernel_rfl
theorem r52 (q p bb o m c bb2 o2 c2 i : Nat) (q_ : Bool) {M : Mem} {M0 : Mem} (X0 : Ext M0 M) (cc0 : (decide ((((i : Nat) : Int)) < (((m : Nat) : Int)))) = true) (hld0 : aload Try.prog 4 ⟨bb, o + (((i : Nat) : Int) : Int).toNat * 1, none⟩ M0 = some (.bool q_)) (hld1 : aload Try.prog 4 ⟨bb2, o2 + (((i : Nat) : Int) : Int).toNat * 1, none⟩ M0 = some (.bool q_)) : ∃ T1, Rd Try.prog [] (q5.loopAt 2) Try.f5.ntmps (fr [(9, (pt q 0)), (10, (pt p 0)), (13, (sli bb o m c)), (14, (sli bb2 o2 m c2)), (15, (i64 (((i : Nat) : Int))))]) M .normal T1 M ∧ [9, 10, 13, 14, 15].map T1.get = [some (pt q 0), some (pt p 0), some (sli bb o m c), some (sli bb2 o2 m c2), some (i64 (IntKind.wrap .i64 ((((i : Nat) : Int)) + (1 : Int))))] := by
  have hraw := r52_raw q p bb o m c bb2 o2 c2 i q_ M  
  obtain ⟨T1, h1, h2⟩ := Rd.told noNumP mixedP (specs_none Try.prog) (fun _ _ => rfl) hraw (hk (bT cc0) (hk (q_inb (by omega) (by simp at cc0; omega)) (hk (q_ld (aload_ext X0 hld0)) (hk (q_inb (by omega) (by simp at cc0; omega)) (hk (q_ld (aload_ext X0 hld1)) (hk (bF (by first | simp_all | (simp; omega))) hn))))))
  exact ⟨T1, h1, h2⟩
theorem r52x_raw (q p : Nat) (a : Option Addr) (m c i : Nat) (V2 : Value) (M : Mem)  : oR Try.prog [] 60 Try.f5 (q5.loopAt 2) [(9, (pt q 0)), (10, (pt p 0)), (13, (.slice a m c)), (14, V2), (15, (i64 (((i : Nat) : Int))))] M [ttT 5, ttF 8] [9, 10] = some ((.exit 2), [some (pt q 0), some (pt p 0)], M, [.ln a m c, qF (decide ((((i : Nat) : Int)) < (((m : Nat) : Int))))]) := by kernel_rfl
theorem r52x (q p : Nat) (a : Option Addr) (m c i : Nat) (V2 : Value) {M : Mem} (hln : a.isNone = true → m = 0 ∧ c = 0) (cc0 : (decide ((((i : Nat) : Int)) < (((m : Nat) : Int)))) = false) : ∃ T1, Rd Try.prog [] (q5.loopAt 2) Try.f5.ntmps (fr [(9, (pt q 0)), (10, (pt p 0)), (13, (.slice a m c)), (14, V2), (15, (i64 (((i : Nat) : Int))))]) M (.exit 2) T1 M ∧ [9, 10].map T1.get = [some (pt q 0), some (pt p 0)] := by
  have hraw := r52x_raw q p a m c i V2 M  
  obtain ⟨T1, h1, h2⟩ := Rd.told noNumP mixedP (specs_none Try.prog) (fun _ _ => rfl) hraw (hk (lN hln) (hk (bF cc0) hn))
  exact ⟨T1, h1, h2⟩
theorem loop52 {q p : Nat} {a a2 : Option Addr} {c c2 n : Nat} {l : List Bool} {M : Mem} (hM : MemOk M) (hs : pBools l (.slice a n c) M) (hs2 : pBools l (.slice a2 n c2) M) :
    ∃ M', LoopR Try.prog [] (q5.loopAt 2) Try.f5.ntmps (fr [(9, pt q 0), (10, pt p 0), (13, .slice a n c), (14, .slice a2 n c2), (15, i64 ((0 : Nat) : Int))]) M (.exit 2) (fr [(9, pt q 0), (10, pt p 0)]) M' ∧ Ext M M' ∧ MemOk M' := by
  have hlen := hs.len
  have hnl : n = l.length := GRowsAt.len_eq hs
  subst hnl
  obtain ⟨_, M', h1, h2, h3, _⟩ := LoopR.for (P := Try.prog) (GL := []) (b := q5.loopAt 2) (nt := Try.f5.ntmps) (id := 2) (σ := Unit) (n := l.length) (Inv := fun i _ M1 => Ext M M1 ∧ MemOk M1 ∧ True)
    (F := fun i _ => [(9, pt q 0), (10, pt p 0), (13, .slice a l.length c), (14, .slice a2 l.length c2), (15, i64 ((i : Nat) : Int))])
    (O := fun _ => [(9, pt q 0), (10, pt p 0)])
    (by
      rintro i _ M1 hi ⟨X1, hM1, _⟩
      obtain ⟨bb, o, rfl, _⟩ := form_pos hs (by omega)
      obtain ⟨bb2, o2, rfl, _⟩ := form_pos hs2 (by omega)
      have ht : l[i]? = some l[i] := List.getElem?_eq_getElem hi
      obtain ⟨T1, h1, h2⟩ := r52 q p bb o l.length c bb2 o2 c2 i l[i] (M := M1) X1 (decide_eq_true (by omega)) (ld_one (P := Try.prog) (ty := 4) hs ht rfl dC4) (ld_one (P := Try.prog) (ty := 4) hs2 ht rfl dC4)
      rw [wrap_succ (by omega)] at h2
      exact ⟨(), T1, M1, h1, h2, X1, hM1, trivial⟩)
    (by
      rintro _ M1 ⟨X1, hM1, _⟩
      exact r52x q p a l.length c l.length (.slice a2 l.length c2) (M := M1) hs.ln (decide_eq_false (by omega)))
    l.length 0 (by omega) (s := ()) (M := M) ⟨Ext.refl M, hM, trivial⟩
  exact ⟨M', h1, h2, h3⟩
theorem rK5 : Try.f5.results = #[.tmp 8] := by kernel_rfl
theorem hS5_8_9_10_12_13 (B : Bd) : ∀ p ∈ ([(8, pick (Con Try.prog [] 8 Q8)), (9, pick (Con Try.prog [] 9 Q9)), (10, pick (Con Try.prog [] 10 Q10)), (12, pick (Con Try.prog [] 12 Q12)), (13, pick (Con Try.prog [] 13 Q13))] : List (FuncId × (List Value → Mem → Option (Value × Mem)))), SpecOk Try.prog [] B p.1 p.2 := (fun p hp => by simp only [List.mem_cons, List.not_mem_nil, or_false] at hp; rcases hp with rfl | rfl | rfl | rfl | rfl <;> first | exact Con.ok _)
theorem w5_raw (size md : Int) (ans acs : Option Addr) (cns ccs : Nat) (ns cs : List Int) (M : Mem) (M3 : Mem) (a12 : Option Addr) (c13 : Nat) (M18 : Mem) (b27 : Nat) (M28 : Mem) (M37 : Mem) (b45 : Nat) (M46 : Mem) (M56 : Mem) (aS65 : Option Addr) (cS66 : Nat) (M67 : Mem) (a90 : Option Addr) (c91 : Nat) (M95 : Mem) (a109 : Option Addr) (c110 : Nat) (M114 : Mem) (M139 : Mem) (a162 : Option Addr) (c163 : Nat) (M167 : Mem) (a183 : Option Addr) (c184 : Nat) (M188 : Mem) (M207 : Mem) : oT Try.prog [0, 2] 60 Try.f5 q5 [(i64 size), (.slice ans ns.length cns), (i64 md), (.slice acs cs.length ccs)] M [ttV 3 (.bool true) M3, ttV 14 (.agg ⟨[(i64 ((((nMk size) : Nat) : Int))), (.slice a12 (mkL size ns md).length c13)]⟩) M18, ttV 16 (pt b27 0) M28, ttS 18 M37, ttL 22 (i64 ((((nMk size) : Nat) : Int))), ttV 26 (pt b45 0) M46, ttS 28 M56, .blk 31 [3, 9, 10, 11] .normal (fr [(9, (pt b27 0)), (10, (pt b45 0))]) M67, ttL 33 (.agg ⟨[(i64 ((((nMk size) : Nat) : Int))), (.slice a12 (mkL size ns md).length c13)]⟩), ttV 35 (.slice a90 (nMk size) c91) M95, ttL 37 (.agg ⟨[(i64 ((((nMk size) : Nat) : Int))), (.slice aS65 (turnL cs (mkL size ns md)).length cS66)]⟩), ttV 39 (.slice a109 (nMk size) c110) M114, ttT 47, ttT 51, ttF 54, .blk 57 [9, 10, 13, 14, 15] .normal (fr [(9, (pt b27 0)), (10, (pt b45 0))]) M139, ttL 59 (.agg ⟨[(i64 ((((nMk size) : Nat) : Int))), (.slice a12 (mkL size ns md).length c13)]⟩), ttV 61 (.slice a162 (orderL (nMk size) (mkL size ns md)).length c163) M167, ttL 63 (.agg ⟨[(i64 ((((nMk size) : Nat) : Int))), (.slice aS65 (turnL cs (mkL size ns md)).length cS66)]⟩), ttV 65 (.slice a183 (orderL (nMk size) (turnL cs (mkL size ns md))).length c184) M188, ttV 67 (.bool true) M207] 8 = some (.ret, some (.bool true), (Mem.mk M207.blks M207.next M139.hide (M207.log ++ M139.log)), [qC 8 [] M (.bool true) M3, qC 9 [(i64 size), (.slice ans ns.length cns), (i64 md)] M3 (.agg ⟨[(i64 ((((nMk size) : Nat) : Int))), (.slice a12 (mkL size ns md).length c13)]⟩) M18, .eq (aalloc Try.prog 26 M18) (1, .val (pt b27 0), M28), qS 26 b27 0 (.agg ⟨[(i64 ((((nMk size) : Nat) : Int))), (.slice a12 (mkL size ns md).length c13)]⟩) M28 M37, qL 3 b27 0 M37 (i64 ((((nMk size) : Nat) : Int))), .eq (aalloc Try.prog 26 M37) (1, .val (pt b45 0), M46), qS 26 b45 0 (.agg ⟨[(i64 ((((nMk size) : Nat) : Int))), sln]⟩) M46 M56, .blk 0 (.loop (q5.loopAt 0)) Try.f5.ntmps [3, 9, 10, 11] [some (.slice acs cs.length ccs), some (pt b27 0), some (pt b45 0), some (i64 0)] M56 .normal (fr [(9, (pt b27 0)), (10, (pt b45 0))]) M67, qL 26 b27 0 (Mem.mk M67.blks M67.next M67.hide []) (.agg ⟨[(i64 ((((nMk size) : Nat) : Int))), (.slice a12 (mkL size ns md).length c13)]⟩), qC 10 [(.agg ⟨[(i64 ((((nMk size) : Nat) : Int))), (.slice a12 (mkL size ns md).length c13)]⟩)] (Mem.mk M67.blks M67.next M67.hide []) (.slice a90 (nMk size) c91) M95, qL 26 b45 0 (Mem.mk M95.blks M95.next (hides 0 [⟨1, 1, M67.next, M95.next⟩, ⟨0, 1, M67.next, M67.next⟩] ++ M67.hide) M95.log) (.agg ⟨[(i64 ((((nMk size) : Nat) : Int))), (.slice aS65 (turnL cs (mkL size ns md)).length cS66)]⟩), qT (Nat.blt b45 M67.next), qC 10 [(.agg ⟨[(i64 ((((nMk size) : Nat) : Int))), (.slice aS65 (turnL cs (mkL size ns md)).length cS66)]⟩)] (Mem.mk M95.blks M95.next M67.hide M95.log) (.slice a109 (nMk size) c110) M114, qT (apartN [b45] M114.log), .ln a90 (nMk size) c91, .ln a109 (nMk size) c110, qF (!(((((nMk size) : Nat) : Int)) == ((((nMk size) : Nat) : Int)))), .blk 2 (.loop (q5.loopAt 2)) Try.f5.ntmps [9, 10, 13, 14, 15] [some (pt b27 0), some (pt b45 0), some (.slice a90 (nMk size) c91), some (.slice a109 (nMk size) c110), some (i64 0)] (Mem.mk M114.blks M114.next M67.hide (M114.log ++ M67.log)) .normal (fr [(9, (pt b27 0)), (10, (pt b45 0))]) M139, qL 26 b27 0 (Mem.mk M139.blks M139.next M139.hide []) (.agg ⟨[(i64 ((((nMk size) : Nat) : Int))), (.slice a12 (mkL size ns md).length c13)]⟩), qC 13 [(.agg ⟨[(i64 ((((nMk size) : Nat) : Int))), (.slice a12 (mkL size ns md).length c13)]⟩)] (Mem.mk M139.blks M139.next M139.hide []) (.slice a162 (orderL (nMk size) (mkL size ns md)).length c163) M167, qL 26 b45 0 (Mem.mk M167.blks M167.next (hides 0 [⟨1, 1, M139.next, M167.next⟩, ⟨0, 1, M139.next, M139.next⟩] ++ M139.hide) M167.log) (.agg ⟨[(i64 ((((nMk size) : Nat) : Int))), (.slice aS65 (turnL cs (mkL size ns md)).length cS66)]⟩), qT (Nat.blt b45 M139.next), qC 13 [(.agg ⟨[(i64 ((((nMk size) : Nat) : Int))), (.slice aS65 (turnL cs (mkL size ns md)).length cS66)]⟩)] (Mem.mk M167.blks M167.next M139.hide M167.log) (.slice a183 (orderL (nMk size) (turnL cs (mkL size ns md))).length c184) M188, qC 12 [(.slice a162 (orderL (nMk size) (mkL size ns md)).length c163), (.slice a183 (orderL (nMk size) (turnL cs (mkL size ns md))).length c184)] (Mem.mk M188.blks M188.next M139.hide M188.log) (.bool true) M207, qT (apartN [b45] M207.log)]) := by kernel_rfl
theorem w5 (size md : Int) (ans acs : Option Addr) (cns ccs : Nat) (ns cs : List Int) {M : Mem} (hM : MemOk M) (hns : pInts ns (.slice ans ns.length cns) M) (hcs : pInts cs (.slice acs cs.length ccs) M) : ∃ v_ M', Ev Try.prog [] 5 [(i64 size), (.slice ans ns.length cns), (i64 md), (.slice acs cs.length ccs)] M v_ M' ∧ Ext M M' ∧ MemOk M' ∧ v_ = .bool true := by
  obtain ⟨w1, N2, M3, p4, l5, e6, E7, hM8, F9⟩ := call_fc (x := ()) hM con8 (rfl)
  have nx10 := E7.next
  have ew1 : w1 = (.bool true) := F9
  subst ew1
  have X11 := (Ext.refl M).trans E7
  obtain ⟨w16, N17, M18, p19, l20, e21, E22, hM23, F24⟩ := call_fc (x := (size, ns, md)) hM8 con9 (⟨_, _, _, rfl, rfl, AP.Ext (R := pInts) hns X11, rfl⟩)
  have nx25 := E22.next
  obtain ⟨L15, ew16, G14⟩ : pNetN ((nMk size), (mkL size ns md)) w16 (hidx [(0, M3.next)] M18) := hx_of F24
  simp only at ew16 G14
  obtain ⟨a12, c13, eL15⟩ := GRowsAt.form G14
  subst eL15
  subst ew16
  have X26 := X11.trans E22
  obtain ⟨b27, M28, eb29, em30, g31, E32, hM33⟩ := new_t hM23 ⟨[(i64 0), sln], 26, 2, 0, true⟩
  have nb27 : M.next ≤ b27 := by rw [← eb29]; exact X26.next
  have F34 := hx_new (R := pEdges) G14 eb29 E32
  have nx35 := E32.next
  have X36 := X26.trans E32
  obtain ⟨M37, q38, g39, kp40, X41, hM42, nx43⟩ := store_t (o := 0) (v := (.agg ⟨[(i64 ((((nMk size) : Nat) : Int))), (.slice a12 (mkL size ns md).length c13)]⟩)) (new := [(i64 ((((nMk size) : Nat) : Int))), (.slice a12 (mkL size ns md).length c13)]) X36 nb27 hM33 dS26 g31 rfl rfl (Nat.zero_le _) (Nat.le_of_ble_eq_true rfl) rfl
  replace g39 : M37.get b27 = some ⟨[(i64 ((((nMk size) : Nat) : Int))), (.slice a12 (mkL size ns md).length c13)], 26, 2, 0, true⟩ := g39
  have F44 := hx_keep (R := pEdges) F34 (fun id h _ => kp40 id h) (by intro id hh; simp only [hidden_con] at hh; omega)
  obtain ⟨b45, M46, eb47, em48, g49, E50, hM51⟩ := new_t hM42 ⟨[(i64 0), sln], 26, 2, 0, true⟩
  have nb45 : M.next ≤ b45 := by rw [← eb47]; exact X41.next
  have db27b45 : b27 ≠ b45 := by have := Mem.lt_of_get g39; omega
  have g53 := E50.old g39
  have nx54 := E50.next
  have X55 := X41.trans E50
  obtain ⟨M56, q57, g58, kp59, X60, hM61, nx62⟩ := store_t (o := 0) (v := (.agg ⟨[(i64 ((((nMk size) : Nat) : Int))), sln]⟩)) (new := [(i64 ((((nMk size) : Nat) : Int))), sln]) X55 nb45 hM51 dS26 g49 rfl rfl (Nat.zero_le _) (Nat.le_of_ble_eq_true rfl) rfl
  replace g58 : M56.get b45 = some ⟨[(i64 ((((nMk size) : Nat) : Int))), sln], 26, 2, 0, true⟩ := g58
  have g64 := (kp59 _ db27b45).trans g53
  obtain ⟨Ms76, q77, _, _, E78, _, _⟩ := store_t (o := 0) (v := (.agg ⟨[(i64 ((((nMk size) : Nat) : Int))), sln]⟩)) (new := [(i64 ((((nMk size) : Nat) : Int))), sln]) E50 (Nat.le_of_eq eb47) hM51 dS26 g49 rfl rfl (Nat.zero_le _) (Nat.le_of_ble_eq_true rfl) rfl
  rw [Option.some.inj (q77.symm.trans q57)] at E78
  obtain ⟨M67, hL68, X69, hM70, gq71, sv75, gs72, A73⟩ := loop5 hM61 E78 (hx_out (R := pEdges) F44) (AP.Ext (R := pInts) hcs (X41)) (Nat.le_of_eq eb47) g58 g64 (Ne.symm db27b45) (chkN_spec (mk_chk _ _ _)).2.2.1
  have G74 : pEdges (turnL cs (mkL size ns md)) sv75 (hidx [(0, M37.next)] M67) := hx_of (mkE_new A73 (fun _ _ => rfl) (by rw [turnL_len]; have := (chkN_spec (mk_chk size ns md)).2.2.1; omega))
  obtain ⟨aS65, cS66, esv75⟩ := GRowsAt.form G74
  subst esv75
  have F79 := hx_ext (R := pEdges) F44 X69
  have X80 := (X41).trans X69
  obtain ⟨R81, eR82⟩ : ∃ m : Mem, m = Mem.mk M67.blks M67.next M67.hide [] := ⟨_, rfl⟩
  have X83 : Ext (Mem.mk M.blks M.next M.hide []) R81 := by rw [eR82]; exact Ext.aside (X80)
  have lg84 : R81.log = [] := by rw [eR82]
  have nxR81 : R81.next = M67.next := by rw [eR82]
  have hM85 : MemOk R81 := by rw [eR82]; exact MemOk.log hM70
  have ltb27M67 : b27 < M67.next := by have h := Mem.lt_of_get gq71; exact h
  have g86 : R81.get b27 = some ⟨[(i64 ((((nMk size) : Nat) : Int))), (.slice a12 (mkL size ns md).length c13)], 26, 2, 0, true⟩ := by rw [eR82]; exact gq71
  have ltb45M67 : b45 < M67.next := by have h := Mem.lt_of_get gs72; exact h
  have g87 : R81.get b45 = some ⟨[(i64 ((((nMk size) : Nat) : Int))), (.slice aS65 (turnL cs (mkL size ns md)).length cS66)], 26, 2, 0, true⟩ := by rw [eR82]; exact gs72
  have F88 := hx_still (R := pEdges) (M' := R81) F79 (fun id b h => by rw [eR82]; exact h)
  have F89 := hx_still (R := pEdges) (M' := R81) G74 (fun id b h => by rw [eR82]; exact h)
  have ltb27M95 := Mem.lt_of_get g86
  have ltb45M95 := Mem.lt_of_get g87
  obtain ⟨w93, N94, M95, p96, l97, e98, E99, hM100, F101⟩ := call_fc (x := ((nMk size), (mkL size ns md))) hM85 con10 (⟨⟨_, rfl, _, rfl, hx_out (R := pEdges) F88⟩, mk_chk _ _ _⟩)
  have nx102 := E99.next
  have F103 := hx_ext (R := pEdges) F88 E99
  have F104 := hx_ext (R := pEdges) F89 E99
  have g105 := E99.old g86
  have g106 := E99.old g87
  have G92 : pBools (linksL (adjM (nMk size) (mkL size ns md)) (nMk size)) w93 (hidx [(0, R81.next)] M95) := hx_of F101
  obtain ⟨a90, c91, ew93⟩ := GRowsAt.form G92
  rw [linksL_len] at ew93
  subst ew93
  have lna90 := GRowsAt.ln G92
  have lg107 : M95.log = [] := by rw [← e98]; exact lg84
  have X108 := X83.trans E99
  have ltb27M114 := Mem.lt_of_get g105
  have ltb45M114 := Mem.lt_of_get g106
  obtain ⟨w112, N113, M114, p115, l116, e117, E118, hM119, F120⟩ := call_fc (x := ((nMk size), (turnL cs (mkL size ns md)))) hM100 con10 (⟨⟨_, rfl, _, rfl, hx_out (R := pEdges) F104⟩, turn_chk cs (mk_chk size ns md)⟩)
  have nx121 := E118.next
  have F122 := hx_ext (R := pEdges) F103 E118
  have F123 := hx_ext (R := pEdges) F104 E118
  have F124 := hx_ext (R := pBools) G92 E118
  have g125 := E118.old g105
  have g126 := E118.old g106
  have G111 : pBools (linksL (adjM (nMk size) (turnL cs (mkL size ns md))) (nMk size)) w112 (hidx [(0, M95.next)] M114) := hx_of F120
  obtain ⟨a109, c110, ew112⟩ := GRowsAt.form G111
  rw [linksL_len] at ew112
  subst ew112
  have lna109 := GRowsAt.ln G111
  have lg127 : M114.log = [] := by rw [← e117]; exact lg107
  have X128 := X108.trans E118
  obtain ⟨M129, ef130⟩ : ∃ m : Mem, m = (Mem.mk M114.blks M114.next M114.hide (M114.log ++ M67.log)) := ⟨_, rfl⟩
  have X131 : Ext M M129 := by rw [ef130]; exact Ext.join (X80) (X128)
  have hM132 : MemOk M129 := by rw [ef130]; exact hM119
  have g133 : M129.get b27 = some ⟨[(i64 ((((nMk size) : Nat) : Int))), (.slice a12 (mkL size ns md).length c13)], 26, 2, 0, true⟩ := by rw [ef130]; exact g125
  have g134 : M129.get b45 = some ⟨[(i64 ((((nMk size) : Nat) : Int))), (.slice aS65 (turnL cs (mkL size ns md)).length cS66)], 26, 2, 0, true⟩ := by rw [ef130]; exact g126
  have F135 := hx_still (R := pEdges) (M' := M129) F122 (fun id b h => by rw [ef130]; exact h)
  have F136 := hx_still (R := pEdges) (M' := M129) F123 (fun id b h => by rw [ef130]; exact h)
  have F137 := hx_still (R := pBools) (M' := M129) F124 (fun id b h => by rw [ef130]; exact h)
  have F138 := hx_still (R := pBools) (M' := M129) G111 (fun id b h => by rw [ef130]; exact h)
  obtain ⟨M139, hL140, E141, hM142⟩ := loop52 hM132 (hx_out (R := pBools) F137) (by rw [← turn_linksL cs (mk_chk size ns md)]; exact hx_out (R := pBools) F138)
  have nx143 := E141.next
  have F144 := hx_ext (R := pEdges) F135 E141
  have F145 := hx_ext (R := pEdges) F136 E141
  have g148 := E141.old g133
  have g149 := E141.old g134
  have X150 := X131.trans E141
  obtain ⟨R151, eR152⟩ : ∃ m : Mem, m = Mem.mk M139.blks M139.next M139.hide [] := ⟨_, rfl⟩
  have X153 : Ext (Mem.mk M.blks M.next M.hide []) R151 := by rw [eR152]; exact Ext.aside (X150)
  have lg154 : R151.log = [] := by rw [eR152]
  have nxR151 : R151.next = M139.next := by rw [eR152]
  have hM155 : MemOk R151 := by rw [eR152]; exact MemOk.log hM142
  have ltb27M139 : b27 < M139.next := by have h := Mem.lt_of_get g148; exact h
  have g156 : R151.get b27 = some ⟨[(i64 ((((nMk size) : Nat) : Int))), (.slice a12 (mkL size ns md).length c13)], 26, 2, 0, true⟩ := by rw [eR152]; exact g148
  have ltb45M139 : b45 < M139.next := by have h := Mem.lt_of_get g149; exact h
  have g157 : R151.get b45 = some ⟨[(i64 ((((nMk size) : Nat) : Int))), (.slice aS65 (turnL cs (mkL size ns md)).length cS66)], 26, 2, 0, true⟩ := by rw [eR152]; exact g149
  have F158 := hx_still (R := pEdges) (M' := R151) F144 (fun id b h => by rw [eR152]; exact h)
  have F159 := hx_still (R := pEdges) (M' := R151) F145 (fun id b h => by rw [eR152]; exact h)
  have ltb27M167 := Mem.lt_of_get g156
  have ltb45M167 := Mem.lt_of_get g157
  obtain ⟨w165, N166, M167, p168, l169, e170, E171, hM172, F173⟩ := call_fc (x := ((nMk size), (mkL size ns md))) hM155 con13 (⟨⟨_, rfl, _, rfl, hx_out (R := pEdges) F158⟩, mk_chk _ _ _⟩)
  have nx174 := E171.next
  have F176 := hx_ext (R := pEdges) F159 E171
  have g179 := E171.old g156
  have g180 := E171.old g157
  have G164 : pInts (orderL (nMk size) (mkL size ns md)) w165 (hidx [(0, R151.next)] M167) := hx_of F173
  obtain ⟨a162, c163, ew165⟩ := GRowsAt.form G164
  subst ew165
  have lg181 : M167.log = [] := by rw [← e170]; exact lg154
  have X182 := X153.trans E171
  have ltb27M188 := Mem.lt_of_get g179
  have ltb45M188 := Mem.lt_of_get g180
  obtain ⟨w186, N187, M188, p189, l190, e191, E192, hM193, F194⟩ := call_fc (x := ((nMk size), (turnL cs (mkL size ns md)))) hM172 con13 (⟨⟨_, rfl, _, rfl, hx_out (R := pEdges) F176⟩, turn_chk cs (mk_chk size ns md)⟩)
  have nx195 := E192.next
  have F200 := hx_ext (R := pInts) G164 E192
  have g201 := E192.old g179
  have g202 := E192.old g180
  have G185 : pInts (orderL (nMk size) (turnL cs (mkL size ns md))) w186 (hidx [(0, M167.next)] M188) := hx_of F194
  obtain ⟨a183, c184, ew186⟩ := GRowsAt.form G185
  subst ew186
  have lg203 : M188.log = [] := by rw [← e191]; exact lg181
  have X204 := X182.trans E192
  have ltb27M207 := Mem.lt_of_get g201
  have ltb45M207 := Mem.lt_of_get g202
  obtain ⟨w205, N206, M207, p208, l209, e210, E211, hM212, F213⟩ := call_fc (x := (orderL (nMk size) (mkL size ns md), orderL (nMk size) (turnL cs (mkL size ns md)))) hM193 con12 (⟨_, _, rfl, hx_out (R := pInts) F200, hx_out (R := pInts) G185⟩)
  have nx214 := E211.next
  have ew205 : w205 = (.bool true) := by have h0 : w205 = .bool (decide (orderL (nMk size) (mkL size ns md) = orderL (nMk size) (turnL cs (mkL size ns md)))) := F213; rw [h0, decide_eq_true (turn_orderL cs (mk_chk size ns md))]
  subst ew205
  have lg223 : M207.log = [] := by rw [← e210]; exact lg203
  have X224 := X204.trans E211
  obtain ⟨M225, ef226⟩ : ∃ m : Mem, m = (Mem.mk M207.blks M207.next M207.hide (M207.log ++ M139.log)) := ⟨_, rfl⟩
  have X227 : Ext M M225 := by rw [ef226]; exact Ext.join (X150) (X224)
  have hM228 : MemOk M225 := by rw [ef226]; exact hM212
  have hraw := w5_raw size md ans acs cns ccs ns cs M  M3 a12 c13 M18 b27 M28 M37 b45 M46 M56 aS65 cS66 M67 a90 c91 M95 a109 c110 M114 M139 a162 c163 M167 a183 c184 M188 M207
  have rw0 : Mem.mk M67.blks M67.next M67.hide [] = R81 := eR82.symm
  have rw1 : Mem.mk M95.blks M95.next M67.hide M95.log = M95 := by rw [(show M67.hide = M95.hide from ((X80).hide.trans (X108).hide.symm))]
  have rw2 : Mem.mk M95.blks M95.next (hides 0 [⟨1, 1, M67.next, M95.next⟩, ⟨0, 1, M67.next, M67.next⟩] ++ M67.hide) M95.log = hidx (hides 0 [⟨1, 1, M67.next, M95.next⟩, ⟨0, 1, M67.next, M67.next⟩]) M95 := by rw [(show M67.hide = M95.hide from ((X80).hide.trans (X108).hide.symm))]; rfl
  have rw3 : Mem.mk M114.blks M114.next M67.hide M114.log = M114 := by rw [(show M67.hide = M114.hide from ((X80).hide.trans (X128).hide.symm))]
  have rw4 : (Mem.mk M114.blks M114.next M67.hide (M114.log ++ M67.log)) = (Mem.mk M114.blks M114.next M114.hide (M114.log ++ M67.log)) := by rw [(show M67.hide = M114.hide from ((X80).hide.trans (X128).hide.symm))]
  have rw5 : (Mem.mk M114.blks M114.next M114.hide (M114.log ++ M67.log)) = M129 := ef130.symm
  have rw6 : Mem.mk M139.blks M139.next M139.hide [] = R151 := eR152.symm
  have rw7 : Mem.mk M167.blks M167.next M139.hide M167.log = M167 := by rw [(show M139.hide = M167.hide from ((X150).hide.trans (X182).hide.symm))]
  have rw8 : Mem.mk M167.blks M167.next (hides 0 [⟨1, 1, M139.next, M167.next⟩, ⟨0, 1, M139.next, M139.next⟩] ++ M139.hide) M167.log = hidx (hides 0 [⟨1, 1, M139.next, M167.next⟩, ⟨0, 1, M139.next, M139.next⟩]) M167 := by rw [(show M139.hide = M167.hide from ((X150).hide.trans (X182).hide.symm))]; rfl
  have rw9 : Mem.mk M188.blks M188.next M139.hide M188.log = M188 := by rw [(show M139.hide = M188.hide from ((X150).hide.trans (X204).hide.symm))]
  have rw10 : Mem.mk M207.blks M207.next M139.hide M207.log = M207 := by rw [(show M139.hide = M207.hide from ((X150).hide.trans (X224).hide.symm))]
  have rw11 : (Mem.mk M207.blks M207.next M139.hide (M207.log ++ M139.log)) = (Mem.mk M207.blks M207.next M207.hide (M207.log ++ M139.log)) := by rw [(show M139.hide = M207.hide from ((X150).hide.trans (X224).hide.symm))]
  have rw12 : (Mem.mk M207.blks M207.next M207.hide (M207.log ++ M139.log)) = M225 := ef226.symm
  try rw [rw0] at hraw
  try rw [rw1] at hraw
  try rw [rw2] at hraw
  try rw [rw3] at hraw
  try rw [rw4] at hraw
  try rw [rw5] at hraw
  try rw [rw6] at hraw
  try rw [rw7] at hraw
  try rw [rw8] at hraw
  try rw [rw9] at hraw
  try rw [rw10] at hraw
  try rw [rw11] at hraw
  try rw [rw12] at hraw
  exact ⟨(.bool true), M225, Ev.told_tmp noNumP mixedP Try.func5 q5_ok (by kernel_rfl) rK5 (fun B => specsB_ok (hS5_8_9_10_12_13 B) (k := [(0, bone (.loop (q5.loopAt 0)) Try.f5.ntmps [3, 9, 10, 11] [some (.slice acs cs.length ccs), some (pt b27 0), some (pt b45 0), some (i64 0)] M56 .normal (fr [(9, (pt b27 0)), (10, (pt b45 0))]) M67), (2, bone (.loop (q5.loopAt 2)) Try.f5.ntmps [9, 10, 13, 14, 15] [some (pt b27 0), some (pt b45 0), some (.slice a90 (nMk size) c91), some (.slice a109 (nMk size) c110), some (i64 0)] M129 .normal (fr [(9, (pt b27 0)), (10, (pt b45 0))]) M139)]) (fun p hp => by simp only [List.mem_cons, List.not_mem_nil, or_false] at hp; rcases hp with rfl | rfl <;> first | exact BlkOk.loop noNumP mixedP hL68 | exact BlkOk.loop noNumP mixedP hL140)) (fun _ h => blksF_two h) hraw (hk (q_call rfl p4 l5 e6) (hk (q_call rfl p19 l20 e21) (hk (q_eq (by rw [← eb29, ← em30]; kernel_rfl) Nat.one_ne_zero) (hk (q_st q38) (hk (lC dC3 g39 rfl) (hk (q_eq (by rw [← eb47, ← em48]; kernel_rfl) Nat.one_ne_zero) (hk (q_st q57) (hk (q_blk rfl) (hk (lA ⟨dA26, dS26⟩ g86 rfl) (hk (q_call rfl p96 l97 e98) (hk (lA ⟨dA26, dS26⟩ (hidx_get.2 ⟨hides_low (by simp; omega), g106⟩) rfl) (hk (q_lt ltb45M67) (hk (q_call rfl p115 l116 e117) (hk (q_apart (by rw [lg127]; simp <;> omega)) (hk (lN lna90) (hk (lN lna109) (hk (bF (by first | simp_all | (simp; omega))) (hk (q_blk rfl) (hk (lA ⟨dA26, dS26⟩ g156 rfl) (hk (q_call rfl p168 l169 e170) (hk (lA ⟨dA26, dS26⟩ (hidx_get.2 ⟨hides_low (by simp; omega), g180⟩) rfl) (hk (q_lt ltb45M139) (hk (q_call rfl p189 l190 e191) (hk (q_call rfl p208 l209 e210) (hk (q_apart (by rw [lg223]; simp <;> omega)) hn))))))))))))))))))))))))), X227, hM228, rfl⟩
end Go.Proofs.Ytfeabmmgmbddnaa
