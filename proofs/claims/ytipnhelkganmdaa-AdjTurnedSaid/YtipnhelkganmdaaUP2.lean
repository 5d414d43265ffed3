/-
  Package adj: each of its laws for every argument; no conditions. The last text states which.
-/
import Derived.Test.YtipnhelkganmdaaUP1
open Go Go.Am Go.Proofs
namespace Go.Proofs.Ytipnhelkganmdaa
set_option maxRecDepth 100000
set_option linter.unusedVariables false
set_option linter.unusedSimpArgs false
theorem dC24 : (Try.prog.underlying 24).map isAggD = some false := by kernel_rfl
theorem dS24 : (Try.prog.info? 24).map (·.size) = some 1 := by kernel_rfl
theorem dA32 : (Try.prog.underlying 32).map isAggD = some true := by kernel_rfl
theorem dS32 : (Try.prog.info? 32).map (·.size) = some 4 := by kernel_rfl
theorem hS27_40 (B : Bd) : ∀ p ∈ ([(35, pick (Con Try.prog [] 35 Q35))] : List (FuncId × (List Value → Mem → Option (Value × Mem)))), SpecOk Try.prog [] B p.1 p.2 := (fun p hp => by simp only [List.mem_cons, List.not_mem_nil, or_false] at hp; rcases hp with rfl <;> first | exact Con.ok _)
theorem r27_0_raw (b bb o m c i : Nat) (n : Int) (e : E4) (M : Mem) (b1 : Nat) (M2 : Mem) (M11 : Mem) (M21 : Mem) : oR Try.prog [] 51 Try.f25 (q25.loopAt 0) [(1, (pt b 0)), (16, (sli bb o m c)), (17, (i64 (((m : Nat) : Int)))), (18, (i64 (((i : Nat) : Int))))] M [ttT 2, ttT 4, ttL 6 (.agg ⟨[(i64 e.f), (i64 e.t), (i64 e.m), (i64 e.c)]⟩), ttV 8 (pt b1 0) M2, ttS 10 M11, ttL 12 (.agg ⟨[(i64 e.f), (i64 e.t), (i64 e.m), (i64 e.c)]⟩), ttL 16 (i64 n), ttV 18 (.bool (fitE n e)) M21, ttF 21] [1, 16, 17, 18] = some (.normal, [some (pt b 0), some (sli bb o m c), some (i64 (((m : Nat) : Int))), some (i64 (IntKind.wrap .i64 ((((i : Nat) : Int)) + (1 : Int))))], M21, [qT (decide ((((i : Nat) : Int)) < (((m : Nat) : Int)))), .q (.inb (((i : Nat) : Int)) m) (ansB true), qL 32 bb (o + (((i : Nat) : Int) : Int).toNat * 4) M (.agg ⟨[(i64 e.f), (i64 e.t), (i64 e.m), (i64 e.c)]⟩), .eq (aalloc Try.prog 32 M) (1, .val (pt b1 0), M2), qS 32 b1 0 (.agg ⟨[(i64 e.f), (i64 e.t), (i64 e.m), (i64 e.c)]⟩) M2 M11, qL 32 b1 0 M11 (.agg ⟨[(i64 e.f), (i64 e.t), (i64 e.m), (i64 e.c)]⟩), qL 3 b 0 M11 (i64 n), qC 35 [(.agg ⟨[(i64 e.f), (i64 e.t), (i64 e.m), (i64 e.c)]⟩), (i64 n)] M11 (.bool (fitE n e)) M21, qF (!(fitE n e))]) := by kernel_rfl
theorem r27_0 (b bb o m c i : Nat) (n : Int) (e : E4) {M M0 : Mem} (hM : MemOk M) (X0 : Ext M0 M) (gb : M.get b = some ⟨[i64 n, (sli bb o m c)], 26, 2, 0, true⟩) (cc0 : (decide ((((i : Nat) : Int)) < (((m : Nat) : Int)))) = true) (cc1 : (fitE n e) = true) (hld0 : aload Try.prog 32 ⟨bb, o + (((i : Nat) : Int) : Int).toNat * 4, none⟩ M0 = some (.agg ⟨[(i64 e.f), (i64 e.t), (i64 e.m), (i64 e.c)]⟩)) : ∃ T1 M', Rd Try.prog [] (q25.loopAt 0) Try.f25.ntmps (fr [(1, (pt b 0)), (16, (sli bb o m c)), (17, (i64 (((m : Nat) : Int)))), (18, (i64 (((i : Nat) : Int))))]) M .normal T1 M' ∧ [1, 16, 17, 18].map T1.get = [some (pt b 0), some (sli bb o m c), some (i64 (((m : Nat) : Int))), some (i64 (IntKind.wrap .i64 ((((i : Nat) : Int)) + (1 : Int))))] ∧ Ext M0 M' ∧ MemOk M' ∧ M'.get b = some ⟨[(i64 n), (sli bb o m c)], 26, 2, 0, true⟩ ∧ ∀ id k, M.get id = some k → id ≠ b → M'.get id = some k := by
  obtain ⟨b1, M2, eb3, em4, g5, E6, hM7⟩ := new_t hM ⟨[(i64 0), (i64 0), (i64 0), (i64 0)], 32, 4, 0, true⟩
  have nb1 : M0.next ≤ b1 := by rw [← eb3]; exact X0.next
  have dbb1 : b ≠ b1 := by have := Mem.lt_of_get gb; omega
  have g8 := E6.old gb
  have nx9 := E6.next
  have X10 := X0.trans E6
  obtain ⟨M11, q12, g13, kp14, X15, hM16, nx17⟩ := store_t (o := 0) (v := (.agg ⟨[(i64 e.f), (i64 e.t), (i64 e.m), (i64 e.c)]⟩)) (new := [(i64 e.f), (i64 e.t), (i64 e.m), (i64 e.c)]) X10 nb1 hM7 dS32 g5 rfl rfl (Nat.zero_le _) (Nat.le_of_ble_eq_true rfl) rfl
  replace g13 : M11.get b1 = some ⟨[(i64 e.f), (i64 e.t), (i64 e.m), (i64 e.c)], 32, 4, 0, true⟩ := g13
  have g18 := (kp14 _ dbb1).trans g8
  have ltbM21 := Mem.lt_of_get g18
  have ltb1M21 := Mem.lt_of_get g13
  obtain ⟨w19, N20, M21, p22, l23, e24, E25, hM26, F27⟩ := call_fc (x := (e, n)) hM16 con35 (⟨_, _, rfl, rfl, rfl⟩)
  have nx28 := E25.next
  have g29 := E25.old g18
  have g30 := E25.old g13
  have ew19 : w19 = (.bool (fitE n e)) := F27
  subst ew19
  have X31 := X15.trans E25
  have hraw := r27_0_raw b bb o m c i n e M  b1 M2 M11 M21
  have hkp : ∀ id k, M.get id = some k → id ≠ b → M21.get id = some k := fun id k g h_b => by
    have g0 := Mem.lt_of_get g
    have g := E6.old g
    have g := ((fun id h _ => kp14 id h) id (by omega) (Mem.lt_of_get g)).trans g
    have g := E25.old g
    exact g
  obtain ⟨T1, h1, h2⟩ := Rd.told noNumP mixedP (fun B => specsB_ok (k := []) (hS27_40 B) (fun p hp => by cases hp)) (fun _ _ => rfl) hraw (hk (bT cc0) (hk (q_inb (by omega) (by simp at cc0; omega)) (hk (q_ld (aload_ext X0 hld0)) (hk (q_eq (by rw [← eb3, ← em4]; kernel_rfl) Nat.one_ne_zero) (hk (q_st q12) (hk (lA ⟨dA32, dS32⟩ g13 rfl) (hk (lC dC3 g18 rfl) (hk (q_call rfl p22 l23 e24) (hk (bF (by rw [cc1]; rfl)) hn)))))))))
  exact ⟨T1, M21, h1, h2, X31, hM26, g29, hkp⟩
theorem r27_1_raw (b bb o m c i : Nat) (n : Int) (e : E4) (M : Mem) (b1 : Nat) (M2 : Mem) (M11 : Mem) (M21 : Mem) : oR Try.prog [] 51 Try.f25 (q25.loopAt 0) [(1, (pt b 0)), (16, (sli bb o m c)), (17, (i64 (((m : Nat) : Int)))), (18, (i64 (((i : Nat) : Int))))] M [ttT 2, ttT 4, ttL 6 (.agg ⟨[(i64 e.f), (i64 e.t), (i64 e.m), (i64 e.c)]⟩), ttV 8 (pt b1 0) M2, ttS 10 M11, ttL 12 (.agg ⟨[(i64 e.f), (i64 e.t), (i64 e.m), (i64 e.c)]⟩), ttL 16 (i64 n), ttV 18 (.bool (fitE n e)) M21, ttT 21] [2] = some (.ret, [some (.bool false)], M21, [qT (decide ((((i : Nat) : Int)) < (((m : Nat) : Int)))), .q (.inb (((i : Nat) : Int)) m) (ansB true), qL 32 bb (o + (((i : Nat) : Int) : Int).toNat * 4) M (.agg ⟨[(i64 e.f), (i64 e.t), (i64 e.m), (i64 e.c)]⟩), .eq (aalloc Try.prog 32 M) (1, .val (pt b1 0), M2), qS 32 b1 0 (.agg ⟨[(i64 e.f), (i64 e.t), (i64 e.m), (i64 e.c)]⟩) M2 M11, qL 32 b1 0 M11 (.agg ⟨[(i64 e.f), (i64 e.t), (i64 e.m), (i64 e.c)]⟩), qL 3 b 0 M11 (i64 n), qC 35 [(.agg ⟨[(i64 e.f), (i64 e.t), (i64 e.m), (i64 e.c)]⟩), (i64 n)] M11 (.bool (fitE n e)) M21, qT (!(fitE n e))]) := by kernel_rfl
theorem r27_1 (b bb o m c i : Nat) (n : Int) (e : E4) {M M0 : Mem} (hM : MemOk M) (X0 : Ext M0 M) (gb : M.get b = some ⟨[i64 n, (sli bb o m c)], 26, 2, 0, true⟩) (cc0 : (decide ((((i : Nat) : Int)) < (((m : Nat) : Int)))) = true) (cc1 : (fitE n e) = false) (hld0 : aload Try.prog 32 ⟨bb, o + (((i : Nat) : Int) : Int).toNat * 4, none⟩ M0 = some (.agg ⟨[(i64 e.f), (i64 e.t), (i64 e.m), (i64 e.c)]⟩)) : ∃ T1 M', Rd Try.prog [] (q25.loopAt 0) Try.f25.ntmps (fr [(1, (pt b 0)), (16, (sli bb o m c)), (17, (i64 (((m : Nat) : Int)))), (18, (i64 (((i : Nat) : Int))))]) M .ret T1 M' ∧ [2].map T1.get = [some (.bool false)] ∧ Ext M0 M' ∧ MemOk M' ∧ M'.get b = some ⟨[(i64 n), (sli bb o m c)], 26, 2, 0, true⟩ ∧ ∀ id k, M.get id = some k → id ≠ b → M'.get id = some k := by
  obtain ⟨b1, M2, eb3, em4, g5, E6, hM7⟩ := new_t hM ⟨[(i64 0), (i64 0), (i64 0), (i64 0)], 32, 4, 0, true⟩
  have nb1 : M0.next ≤ b1 := by rw [← eb3]; exact X0.next
  have dbb1 : b ≠ b1 := by have := Mem.lt_of_get gb; omega
  have g8 := E6.old gb
  have nx9 := E6.next
  have X10 := X0.trans E6
  obtain ⟨M11, q12, g13, kp14, X15, hM16, nx17⟩ := store_t (o := 0) (v := (.agg ⟨[(i64 e.f), (i64 e.t), (i64 e.m), (i64 e.c)]⟩)) (new := [(i64 e.f), (i64 e.t), (i64 e.m), (i64 e.c)]) X10 nb1 hM7 dS32 g5 rfl rfl (Nat.zero_le _) (Nat.le_of_ble_eq_true rfl) rfl
  replace g13 : M11.get b1 = some ⟨[(i64 e.f), (i64 e.t), (i64 e.m), (i64 e.c)], 32, 4, 0, true⟩ := g13
  have g18 := (kp14 _ dbb1).trans g8
  have ltbM21 := Mem.lt_of_get g18
  have ltb1M21 := Mem.lt_of_get g13
  obtain ⟨w19, N20, M21, p22, l23, e24, E25, hM26, F27⟩ := call_fc (x := (e, n)) hM16 con35 (⟨_, _, rfl, rfl, rfl⟩)
  have nx28 := E25.next
  have g29 := E25.old g18
  have g30 := E25.old g13
  have ew19 : w19 = (.bool (fitE n e)) := F27
  subst ew19
  have X31 := X15.trans E25
  have hraw := r27_1_raw b bb o m c i n e M  b1 M2 M11 M21
  have hkp : ∀ id k, M.get id = some k → id ≠ b → M21.get id = some k := fun id k g h_b => by
    have g0 := Mem.lt_of_get g
    have g := E6.old g
    have g := ((fun id h _ => kp14 id h) id (by omega) (Mem.lt_of_get g)).trans g
    have g := E25.old g
    exact g
  obtain ⟨T1, h1, h2⟩ := Rd.told noNumP mixedP (fun B => specsB_ok (k := []) (hS27_40 B) (fun p hp => by cases hp)) (fun _ _ => rfl) hraw (hk (bT cc0) (hk (q_inb (by omega) (by simp at cc0; omega)) (hk (q_ld (aload_ext X0 hld0)) (hk (q_eq (by rw [← eb3, ← em4]; kernel_rfl) Nat.one_ne_zero) (hk (q_st q12) (hk (lA ⟨dA32, dS32⟩ g13 rfl) (hk (lC dC3 g18 rfl) (hk (q_call rfl p22 l23 e24) (hk (bT (by rw [cc1]; rfl)) hn)))))))))
  exact ⟨T1, M21, h1, h2, X31, hM26, g29, hkp⟩
theorem r27x_raw (b : Nat) (a : Option Addr) (m c i : Nat) (n : Int) (M : Mem)  : oR Try.prog [] 51 Try.f25 (q25.loopAt 0) [(1, (pt b 0)), (16, (.slice a m c)), (17, (i64 (((m : Nat) : Int)))), (18, (i64 (((i : Nat) : Int))))] M [ttF 2] [] = some ((.exit 0), [], M, [qF (decide ((((i : Nat) : Int)) < (((m : Nat) : Int))))]) := by kernel_rfl
theorem r27x (b : Nat) (a : Option Addr) (m c i : Nat) (n : Int) {M : Mem} (gb : M.get b = some ⟨[i64 n, (.slice a m c)], 26, 2, 0, true⟩) (cc0 : (decide ((((i : Nat) : Int)) < (((m : Nat) : Int)))) = false) : ∃ T1, Rd Try.prog [] (q25.loopAt 0) Try.f25.ntmps (fr [(1, (pt b 0)), (16, (.slice a m c)), (17, (i64 (((m : Nat) : Int)))), (18, (i64 (((i : Nat) : Int))))]) M (.exit 0) T1 M ∧ [].map T1.get = [] := by
  have hraw := r27x_raw b a m c i n M  
  obtain ⟨T1, h1, h2⟩ := Rd.told noNumP mixedP (specs_none Try.prog) (fun _ _ => rfl) hraw (hk (bF cc0) hn)
  exact ⟨T1, h1, h2⟩
theorem loop27 {b : Nat} {a : Option Addr} {c : Nat} {n : Int} {l : List E4} {M : Mem} (hM : MemOk M) (hs : EdgesAt M (.slice a l.length c) l) (hg : M.get b = some ⟨[i64 n, .slice a l.length c], 26, 2, 0, true⟩) :
    ∃ e O M', LoopR Try.prog [] (q25.loopAt 0) Try.f25.ntmps (fr [(1, pt b 0), (16, .slice a l.length c), (17, i64 ((l.length : Nat) : Int)), (18, i64 ((0 : Nat) : Int))]) M e (fr O) M' ∧ Ext M M' ∧ MemOk M' ∧
      ((e = .exit 0 ∧ O = [] ∧ l.all (fitE n) = true) ∨ (e = .ret ∧ O = [(2, .bool false)] ∧ l.all (fitE n) = false)) := by
  have hlen := hs.len
  refine LoopR.forE (σ := Unit) (n := l.length) (Inv := fun i _ M1 => Ext M M1 ∧ MemOk M1 ∧ M1.get b = some ⟨[i64 n, .slice a l.length c], 26, 2, 0, true⟩ ∧ (l.take i).all (fitE n) = true)
    (F := fun i _ => [(1, pt b 0), (16, .slice a l.length c), (17, i64 ((l.length : Nat) : Int)), (18, i64 ((i : Nat) : Int))])
    (Post := fun e O M' => Ext M M' ∧ MemOk M' ∧ ((e = .exit 0 ∧ O = [] ∧ l.all (fitE n) = true) ∨ (e = .ret ∧ O = [(2, .bool false)] ∧ l.all (fitE n) = false))) ?_ ?_ l.length 0 (by omega) (s := ()) ⟨Ext.refl M, hM, hg, by simp⟩
  · rintro i _ M1 hi ⟨X, hM1, hg1, hall⟩
    obtain ⟨bb, o, rfl, _⟩ := form_pos hs (by omega)
    have ht : l[i]? = some l[i] := List.getElem?_eq_getElem hi
    have hld := ld_row (P := Try.prog) (ty := 32) hs ht dA32 dS32
    cases hf : fitE n l[i] with
    | true =>
      obtain ⟨T1, M2, h1, h2, h3, h4, h5, _⟩ := r27_0 b bb o l.length c i n l[i] hM1 X hg1 (decide_eq_true (by omega)) hf hld
      rw [wrap_succ (by omega)] at h2
      refine .inl ⟨(), T1, M2, h1, h2, h3, h4, h5, ?_⟩
      rw [List.take_succ_eq_append_getElem hi, List.all_append, hall]
      simp [hf]
    | false =>
      obtain ⟨T1, M2, h1, h2, h3, h4, h5, _⟩ := r27_1 b bb o l.length c i n l[i] hM1 X hg1 (decide_eq_true (by omega)) hf hld
      refine .inr ⟨_, [(2, .bool false)], T1, M2, h1, by simp, h2, h3, h4, .inr ⟨rfl, rfl, ?_⟩⟩
      rw [List.all_eq_false]
      exact ⟨l[i], List.getElem_mem hi, by simp [hf]⟩
  · rintro _ M1 ⟨X, hM1, hg1, hall⟩
    obtain ⟨T1, h1, h2⟩ := r27x b a l.length c l.length n hg1 (decide_eq_false (by omega))
    refine ⟨_, [], T1, M1, h1, by simp, h2, X, hM1, .inl ⟨rfl, rfl, ?_⟩⟩
    rwa [List.take_length] at hall
theorem loop27_t {b : Nat} {a : Option Addr} {c : Nat} {n : Int} {l : List E4} {M : Mem} (hM : MemOk M) (hs : EdgesAt M (.slice a l.length c) l) (hg : M.get b = some ⟨[i64 n, .slice a l.length c], 26, 2, 0, true⟩) (h : l.all (fitE n) = true) :
    ∃ M', LoopR Try.prog [] (q25.loopAt 0) Try.f25.ntmps (fr [(1, pt b 0), (16, .slice a l.length c), (17, i64 ((l.length : Nat) : Int)), (18, i64 ((0 : Nat) : Int))]) M (.exit 0) (fr []) M' ∧ Ext M M' ∧ MemOk M' := by
  obtain ⟨e, O, M', h1, h2, h3, h4 | h4⟩ := loop27 hM hs hg
  · obtain ⟨rfl, rfl, _⟩ := h4; exact ⟨M', h1, h2, h3⟩
  · rw [h] at h4; cases h4.2.2
theorem loop27_f {b : Nat} {a : Option Addr} {c : Nat} {n : Int} {l : List E4} {M : Mem} (hM : MemOk M) (hs : EdgesAt M (.slice a l.length c) l) (hg : M.get b = some ⟨[i64 n, .slice a l.length c], 26, 2, 0, true⟩) (h : l.all (fitE n) = false) :
    ∃ M', LoopR Try.prog [] (q25.loopAt 0) Try.f25.ntmps (fr [(1, pt b 0), (16, .slice a l.length c), (17, i64 ((l.length : Nat) : Int)), (18, i64 ((0 : Nat) : Int))]) M .ret (fr [(2, .bool false)]) M' ∧ Ext M M' ∧ MemOk M' := by
  obtain ⟨e, O, M', h1, h2, h3, h4 | h4⟩ := loop27 hM hs hg
  · rw [h] at h4; cases h4.2.2
  · obtain ⟨rfl, rfl, _⟩ := h4; exact ⟨M', h1, h2, h3⟩
theorem rK25 : Try.f25.results = #[.tmp 2] := by kernel_rfl
theorem hS27_39 (B : Bd) : ∀ p ∈ ([(34, pick (Con Try.prog [] 34 Q34))] : List (FuncId × (List Value → Mem → Option (Value × Mem)))), SpecOk Try.prog [] B p.1 p.2 := (fun p hp => by simp only [List.mem_cons, List.not_mem_nil, or_false] at hp; rcases hp with rfl <;> first | exact Con.ok _)
theorem w27_0_raw (ln : Int) (al : Option Addr) (cl : Nat) (l : List E4) (M : Mem) (b1 : Nat) (M2 : Mem) (M12 : Mem) : oT Try.prog [] 51 Try.f25 q25 [(.agg ⟨[(i64 ln), (.slice al l.length cl)]⟩)] M [ttV 1 (pt b1 0) M2, ttL 7 (i64 ln), ttV 9 (.bool (fitN ln)) M12, ttF 14, ttF 16, ttL 17 (.slice al l.length cl), ttF 18, ttT 19, ttF 20, ttF 23, ttT 24] 2 = some (.ret, some (.bool false), M12, [.eq (abox Try.prog 26 (.agg ⟨[(i64 ln), (.slice al l.length cl)]⟩) M) (1, .val (pt b1 0), M2), qL 3 b1 0 M2 (i64 ln), qC 34 [(i64 ln)] M2 (.bool (fitN ln)) M12, qF (!(fitN ln)), qF (!(fitN ln)), qL 24 b1 1 M12 (.slice al l.length cl), qF (!(fitN ln)), .ln al l.length cl, qF (!(fitN ln)), qF (!(fitN ln)), qT (decide ((((l.length : Nat) : Int)) > (400 : Int)))]) := by kernel_rfl
theorem w27_0 (ln : Int) (al : Option Addr) (cl : Nat) (l : List E4) {M : Mem} (hM : MemOk M) (hl : pEdges l (.slice al l.length cl) M) (cc0 : (fitN ln) = true) (cc1 : (decide ((((l.length : Nat) : Int)) > (400 : Int))) = true) : ∃ v M', Ev Try.prog [] 25 [(.agg ⟨[(i64 ln), (.slice al l.length cl)]⟩)] M v M' ∧ Ext M M' ∧ MemOk M' ∧ v = (.bool false) := by
  obtain ⟨b1, M2, eb3, em4, g5, E6, hM7⟩ := new_t hM ⟨[(i64 ln), (.slice al l.length cl)], 26, 2, 0, true⟩
  have nb1 : M.next ≤ b1 := by rw [← eb3]; exact (Ext.refl M).next
  have nx8 := E6.next
  have X9 := (Ext.refl M).trans E6
  have ltb1M12 := Mem.lt_of_get g5
  obtain ⟨w10, N11, M12, p13, l14, e15, E16, hM17, F18⟩ := call_fc (x := ln) hM7 con34 (⟨_, rfl, rfl⟩)
  have nx19 := E16.next
  have g20 := E16.old g5
  have ew10 : w10 = (.bool (fitN ln)) := F18
  subst ew10
  have X21 := X9.trans E16
  have hraw := w27_0_raw ln al cl l M  b1 M2 M12
  exact ⟨(.bool false), M12, Ev.told_tmp noNumP mixedP Try.func25 q25_ok (by kernel_rfl) rK25 (fun B => specsB_ok (k := []) (hS27_39 B) (fun p hp => by cases hp)) (fun _ _ => rfl) hraw (hk (q_eq (by rw [← eb3, ← em4]; kernel_rfl) Nat.one_ne_zero) (hk (lC dC3 g5 rfl) (hk (q_call rfl p13 l14 e15) (hk (bF (by rw [cc0]; rfl)) (hk (bF (by rw [cc0]; rfl)) (hk (lC dC24 g20 rfl) (hk (bF (by rw [cc0]; rfl)) (hk (lN hl.ln) (hk (bF (by rw [cc0]; rfl)) (hk (bF (by rw [cc0]; rfl)) (hk (bT cc1) hn))))))))))), X21, hM17, rfl⟩
theorem w27_1_raw (ln : Int) (al : Option Addr) (cl : Nat) (l : List E4) (M : Mem) (b1 : Nat) (M2 : Mem) (M12 : Mem) (M22 : Mem) : oT Try.prog [0] 60 Try.f25 q25 [(.agg ⟨[(i64 ln), (.slice al l.length cl)]⟩)] M [ttV 1 (pt b1 0) M2, ttL 7 (i64 ln), ttV 9 (.bool (fitN ln)) M12, ttF 14, ttF 16, ttL 17 (.slice al l.length cl), ttF 18, ttT 19, ttF 20, ttF 23, ttF 24, ttL 28 (.slice al l.length cl), ttT 30, .blk 33 [1, 16, 17, 18] .normal (fr []) M22] 2 = some (.ret, some (.bool true), M22, [.eq (abox Try.prog 26 (.agg ⟨[(i64 ln), (.slice al l.length cl)]⟩) M) (1, .val (pt b1 0), M2), qL 3 b1 0 M2 (i64 ln), qC 34 [(i64 ln)] M2 (.bool (fitN ln)) M12, qF (!(fitN ln)), qF (!(fitN ln)), qL 24 b1 1 M12 (.slice al l.length cl), qF (!(fitN ln)), .ln al l.length cl, qF (!(fitN ln)), qF (!(fitN ln)), qF (decide ((((l.length : Nat) : Int)) > (400 : Int))), qL 24 b1 1 M12 (.slice al l.length cl), .ln al l.length cl, .blk 0 (.loop (q25.loopAt 0)) Try.f25.ntmps [1, 16, 17, 18] [some (pt b1 0), some (.slice al l.length cl), some (i64 (((l.length : Nat) : Int))), some (i64 0)] M12 .normal (fr []) M22]) := by kernel_rfl
theorem w27_1 (ln : Int) (al : Option Addr) (cl : Nat) (l : List E4) {M : Mem} (hM : MemOk M) (hl : pEdges l (.slice al l.length cl) M) (cc0 : (fitN ln) = true) (cc1 : (decide ((((l.length : Nat) : Int)) > (400 : Int))) = false) (cc2 : (l.all (fitE ln)) = true) : ∃ v M', Ev Try.prog [] 25 [(.agg ⟨[(i64 ln), (.slice al l.length cl)]⟩)] M v M' ∧ Ext M M' ∧ MemOk M' ∧ v = (.bool true) := by
  obtain ⟨b1, M2, eb3, em4, g5, E6, hM7⟩ := new_t hM ⟨[(i64 ln), (.slice al l.length cl)], 26, 2, 0, true⟩
  have nb1 : M.next ≤ b1 := by rw [← eb3]; exact (Ext.refl M).next
  have nx8 := E6.next
  have X9 := (Ext.refl M).trans E6
  have ltb1M12 := Mem.lt_of_get g5
  obtain ⟨w10, N11, M12, p13, l14, e15, E16, hM17, F18⟩ := call_fc (x := ln) hM7 con34 (⟨_, rfl, rfl⟩)
  have nx19 := E16.next
  have g20 := E16.old g5
  have ew10 : w10 = (.bool (fitN ln)) := F18
  subst ew10
  have X21 := X9.trans E16
  obtain ⟨M22, hL23, E24, hM25⟩ := loop27_t hM17 (AP.Ext (R := pEdges) hl X21) g20 cc2
  have nx26 := E24.next
  have g27 := E24.old g20
  have X28 := X21.trans E24
  have hraw := w27_1_raw ln al cl l M  b1 M2 M12 M22
  exact ⟨(.bool true), M22, Ev.told_tmp noNumP mixedP Try.func25 q25_ok (by kernel_rfl) rK25 (fun B => specsB_ok (hS27_39 B) (k := [(0, bone (.loop (q25.loopAt 0)) Try.f25.ntmps [1, 16, 17, 18] [some (pt b1 0), some (.slice al l.length cl), some (i64 (((l.length : Nat) : Int))), some (i64 0)] M12 .normal (fr []) M22)]) (fun p hp => by simp only [List.mem_cons, List.not_mem_nil, or_false] at hp; rcases hp with rfl <;> first | exact BlkOk.loop noNumP mixedP hL23)) (fun _ h => blksF_one h) hraw (hk (q_eq (by rw [← eb3, ← em4]; kernel_rfl) Nat.one_ne_zero) (hk (lC dC3 g5 rfl) (hk (q_call rfl p13 l14 e15) (hk (bF (by rw [cc0]; rfl)) (hk (bF (by rw [cc0]; rfl)) (hk (lC dC24 g20 rfl) (hk (bF (by rw [cc0]; rfl)) (hk (lN hl.ln) (hk (bF (by rw [cc0]; rfl)) (hk (bF (by rw [cc0]; rfl)) (hk (bF cc1) (hk (lC dC24 g20 rfl) (hk (lN hl.ln) (hk (q_blk rfl) hn)))))))))))))), X28, hM25, rfl⟩
theorem w27_2_raw (ln : Int) (al : Option Addr) (cl : Nat) (l : List E4) (M : Mem) (b1 : Nat) (M2 : Mem) (M12 : Mem) (M22 : Mem) : oT Try.prog [0] 60 Try.f25 q25 [(.agg ⟨[(i64 ln), (.slice al l.length cl)]⟩)] M [ttV 1 (pt b1 0) M2, ttL 7 (i64 ln), ttV 9 (.bool (fitN ln)) M12, ttF 14, ttF 16, ttL 17 (.slice al l.length cl), ttF 18, ttT 19, ttF 20, ttF 23, ttF 24, ttL 28 (.slice al l.length cl), ttT 30, .blk 33 [1, 16, 17, 18] .ret (fr [(2, (.bool false))]) M22] 2 = some (.ret, some (.bool false), M22, [.eq (abox Try.prog 26 (.agg ⟨[(i64 ln), (.slice al l.length cl)]⟩) M) (1, .val (pt b1 0), M2), qL 3 b1 0 M2 (i64 ln), qC 34 [(i64 ln)] M2 (.bool (fitN ln)) M12, qF (!(fitN ln)), qF (!(fitN ln)), qL 24 b1 1 M12 (.slice al l.length cl), qF (!(fitN ln)), .ln al l.length cl, qF (!(fitN ln)), qF (!(fitN ln)), qF (decide ((((l.length : Nat) : Int)) > (400 : Int))), qL 24 b1 1 M12 (.slice al l.length cl), .ln al l.length cl, .blk 0 (.loop (q25.loopAt 0)) Try.f25.ntmps [1, 16, 17, 18] [some (pt b1 0), some (.slice al l.length cl), some (i64 (((l.length : Nat) : Int))), some (i64 0)] M12 .ret (fr [(2, (.bool false))]) M22]) := by kernel_rfl
theorem w27_2 (ln : Int) (al : Option Addr) (cl : Nat) (l : List E4) {M : Mem} (hM : MemOk M) (hl : pEdges l (.slice al l.length cl) M) (cc0 : (fitN ln) = true) (cc1 : (decide ((((l.length : Nat) : Int)) > (400 : Int))) = false) (cc2 : (l.all (fitE ln)) = false) : ∃ v M', Ev Try.prog [] 25 [(.agg ⟨[(i64 ln), (.slice al l.length cl)]⟩)] M v M' ∧ Ext M M' ∧ MemOk M' ∧ v = (.bool false) := by
  obtain ⟨b1, M2, eb3, em4, g5, E6, hM7⟩ := new_t hM ⟨[(i64 ln), (.slice al l.length cl)], 26, 2, 0, true⟩
  have nb1 : M.next ≤ b1 := by rw [← eb3]; exact (Ext.refl M).next
  have nx8 := E6.next
  have X9 := (Ext.refl M).trans E6
  have ltb1M12 := Mem.lt_of_get g5
  obtain ⟨w10, N11, M12, p13, l14, e15, E16, hM17, F18⟩ := call_fc (x := ln) hM7 con34 (⟨_, rfl, rfl⟩)
  have nx19 := E16.next
  have g20 := E16.old g5
  have ew10 : w10 = (.bool (fitN ln)) := F18
  subst ew10
  have X21 := X9.trans E16
  obtain ⟨M22, hL23, E24, hM25⟩ := loop27_f hM17 (AP.Ext (R := pEdges) hl X21) g20 cc2
  have nx26 := E24.next
  have g27 := E24.old g20
  have X28 := X21.trans E24
  have hraw := w27_2_raw ln al cl l M  b1 M2 M12 M22
  exact ⟨(.bool false), M22, Ev.told_tmp noNumP mixedP Try.func25 q25_ok (by kernel_rfl) rK25 (fun B => specsB_ok (hS27_39 B) (k := [(0, bone (.loop (q25.loopAt 0)) Try.f25.ntmps [1, 16, 17, 18] [some (pt b1 0), some (.slice al l.length cl), some (i64 (((l.length : Nat) : Int))), some (i64 0)] M12 .ret (fr [(2, (.bool false))]) M22)]) (fun p hp => by simp only [List.mem_cons, List.not_mem_nil, or_false] at hp; rcases hp with rfl <;> first | exact BlkOk.loop noNumP mixedP hL23)) (fun _ h => blksF_one h) hraw (hk (q_eq (by rw [← eb3, ← em4]; kernel_rfl) Nat.one_ne_zero) (hk (lC dC3 g5 rfl) (hk (q_call rfl p13 l14 e15) (hk (bF (by rw [cc0]; rfl)) (hk (bF (by rw [cc0]; rfl)) (hk (lC dC24 g20 rfl) (hk (bF (by rw [cc0]; rfl)) (hk (lN hl.ln) (hk (bF (by rw [cc0]; rfl)) (hk (bF (by rw [cc0]; rfl)) (hk (bF cc1) (hk (lC dC24 g20 rfl) (hk (lN hl.ln) (hk (q_blk rfl) hn)))))))))))))), X28, hM25, rfl⟩
theorem w27_3_raw (ln : Int) (al : Option Addr) (cl : Nat) (l : List E4) (M : Mem) (b1 : Nat) (M2 : Mem) (M12 : Mem) : oT Try.prog [] 51 Try.f25 q25 [(.agg ⟨[(i64 ln), (.slice al l.length cl)]⟩)] M [ttV 1 (pt b1 0) M2, ttL 7 (i64 ln), ttV 9 (.bool (fitN ln)) M12, ttT 14, ttT 16, ttT 18, ttT 20, ttT 23] 2 = some (.ret, some (.bool false), M12, [.eq (abox Try.prog 26 (.agg ⟨[(i64 ln), (.slice al l.length cl)]⟩) M) (1, .val (pt b1 0), M2), qL 3 b1 0 M2 (i64 ln), qC 34 [(i64 ln)] M2 (.bool (fitN ln)) M12, qT (!(fitN ln)), qT (!(fitN ln)), qT (!(fitN ln)), qT (!(fitN ln)), qT (!(fitN ln))]) := by kernel_rfl
theorem w27_3 (ln : Int) (al : Option Addr) (cl : Nat) (l : List E4) {M : Mem} (hM : MemOk M) (hl : pEdges l (.slice al l.length cl) M) (cc0 : (fitN ln) = false) : ∃ v M', Ev Try.prog [] 25 [(.agg ⟨[(i64 ln), (.slice al l.length cl)]⟩)] M v M' ∧ Ext M M' ∧ MemOk M' ∧ v = (.bool false) := by
  obtain ⟨b1, M2, eb3, em4, g5, E6, hM7⟩ := new_t hM ⟨[(i64 ln), (.slice al l.length cl)], 26, 2, 0, true⟩
  have nb1 : M.next ≤ b1 := by rw [← eb3]; exact (Ext.refl M).next
  have nx8 := E6.next
  have X9 := (Ext.refl M).trans E6
  have ltb1M12 := Mem.lt_of_get g5
  obtain ⟨w10, N11, M12, p13, l14, e15, E16, hM17, F18⟩ := call_fc (x := ln) hM7 con34 (⟨_, rfl, rfl⟩)
  have nx19 := E16.next
  have g20 := E16.old g5
  have ew10 : w10 = (.bool (fitN ln)) := F18
  subst ew10
  have X21 := X9.trans E16
  have hraw := w27_3_raw ln al cl l M  b1 M2 M12
  exact ⟨(.bool false), M12, Ev.told_tmp noNumP mixedP Try.func25 q25_ok (by kernel_rfl) rK25 (fun B => specsB_ok (k := []) (hS27_39 B) (fun p hp => by cases hp)) (fun _ _ => rfl) hraw (hk (q_eq (by rw [← eb3, ← em4]; kernel_rfl) Nat.one_ne_zero) (hk (lC dC3 g5 rfl) (hk (q_call rfl p13 l14 e15) (hk (bT (by rw [cc0]; rfl)) (hk (bT (by rw [cc0]; rfl)) (hk (bT (by rw [cc0]; rfl)) (hk (bT (by rw [cc0]; rfl)) (hk (bT (by rw [cc0]; rfl)) hn)))))))), X21, hM17, rfl⟩
theorem w27_all (ln : Int) (al : Option Addr) (cl : Nat) (l : List E4) {M : Mem} (hM : MemOk M) (hl : pEdges l (.slice al l.length cl) M) : ∃ v M', Ev Try.prog [] 25 [(.agg ⟨[(i64 ln), (.slice al l.length cl)]⟩)] M v M' ∧ Ext M M' ∧ MemOk M' ∧ v = .bool (chkN ln l) := by
  cases cc0 : (fitN ln) with
  | true =>
    cases cc1 : (decide ((((l.length : Nat) : Int)) > (400 : Int))) with
    | true =>
      obtain ⟨v, M1, h1, h2, h3, h4⟩ := w27_0 ln al cl l hM hl cc0 cc1
      refine ⟨v, M1, h1, h2, h3, ?_⟩
      subst h4
      first | rfl | (simp only [chkN, cc0, cc1, cond_true, cond_false, Bool.true_and, Bool.false_and, Bool.and_true, Bool.and_false, Bool.true_or, Bool.false_or, Bool.or_true, Bool.or_false, Bool.not_true, Bool.not_false]; done) | (simp only [chkN, cc0, cc1, cond_true, cond_false, Bool.true_and, Bool.false_and, Bool.and_true, Bool.and_false, Bool.true_or, Bool.false_or, Bool.or_true, Bool.or_false, Bool.not_true, Bool.not_false] <;> rfl) | (simp_all [chkN]; done)
    | false =>
      cases cc2 : (l.all (fitE ln)) with
      | true =>
        obtain ⟨v, M1, h1, h2, h3, h4⟩ := w27_1 ln al cl l hM hl cc0 cc1 cc2
        refine ⟨v, M1, h1, h2, h3, ?_⟩
        subst h4
        first | rfl | (simp only [chkN, cc0, cc1, cc2, cond_true, cond_false, Bool.true_and, Bool.false_and, Bool.and_true, Bool.and_false, Bool.true_or, Bool.false_or, Bool.or_true, Bool.or_false, Bool.not_true, Bool.not_false]; done) | (simp only [chkN, cc0, cc1, cc2, cond_true, cond_false, Bool.true_and, Bool.false_and, Bool.and_true, Bool.and_false, Bool.true_or, Bool.false_or, Bool.or_true, Bool.or_false, Bool.not_true, Bool.not_false] <;> rfl) | (simp_all [chkN]; done)
      | false =>
        obtain ⟨v, M1, h1, h2, h3, h4⟩ := w27_2 ln al cl l hM hl cc0 cc1 cc2
        refine ⟨v, M1, h1, h2, h3, ?_⟩
        subst h4
        first | rfl | (simp only [chkN, cc0, cc1, cc2, cond_true, cond_false, Bool.true_and, Bool.false_and, Bool.and_true, Bool.and_false, Bool.true_or, Bool.false_or, Bool.or_true, Bool.or_false, Bool.not_true, Bool.not_false]; done) | (simp only [chkN, cc0, cc1, cc2, cond_true, cond_false, Bool.true_and, Bool.false_and, Bool.and_true, Bool.and_false, Bool.true_or, Bool.false_or, Bool.or_true, Bool.or_false, Bool.not_true, Bool.not_false] <;> rfl) | (simp_all [chkN]; done)
  | false =>
    obtain ⟨v, M1, h1, h2, h3, h4⟩ := w27_3 ln al cl l hM hl cc0
    refine ⟨v, M1, h1, h2, h3, ?_⟩
    subst h4
    first | rfl | (simp only [chkN, cc0, cond_true, cond_false, Bool.true_and, Bool.false_and, Bool.and_true, Bool.and_false, Bool.true_or, Bool.false_or, Bool.or_true, Bool.or_false, Bool.not_true, Bool.not_false]; done) | (simp only [chkN, cc0, cond_true, cond_false, Bool.true_and, Bool.false_and, Bool.and_true, Bool.and_false, Bool.true_or, Bool.false_or, Bool.or_true, Bool.or_false, Bool.not_true, Bool.not_false] <;> rfl) | (simp_all [chkN]; done)
abbrev Q25 := FC (as1 pNet) (plain pB) (fun x => chkN x.1 x.2)
theorem con25 {l : (Int × List E4)} {lv : List Value} {M : Mem} (hM : MemOk M) (h : (as1 pNet) l lv M) : ∃ v M', Con Try.prog [] 25 Q25 lv M v M' := by
  refine FC.con h ?_
  obtain ⟨g0, rfl, k0⟩ := h
  obtain ⟨ln, l⟩ := l
  obtain ⟨_, rfl, hl⟩ := k0
  obtain ⟨al, cl, rfl⟩ := GRowsAt.form hl
  obtain ⟨v, M', h1, h2, _, h3⟩ := w27_all ln al cl l hM hl
  exact ⟨v, M', h1, h2, h3⟩
end Go.Proofs.Ytipnhelkganmdaa
