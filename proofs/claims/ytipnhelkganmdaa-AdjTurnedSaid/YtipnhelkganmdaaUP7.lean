/-
  Package adj: each of its laws for every argument; no conditions. The last text states which.
-/
import Derived.Test.YtipnhelkganmdaaUP6
open Go Go.Am Go.Proofs
namespace Go.Proofs.Ytipnhelkganmdaa
set_option maxRecDepth 100000
set_option linter.unusedVariables false
set_option linter.unusedSimpArgs false
theorem dC46 : (Try.prog.underlying 46).map isAggD = some false := by kernel_rfl
theorem rK31 : Try.f31.results = #[.tmp 4] := by kernel_rfl
theorem w44_0_raw (E c : Nat) (rs : List (List Int)) (v : Int) (r : List Int) (ar : Option Addr) (cr : Nat) (M : Mem)  : oT Try.prog [] 51 Try.f31 q31 [(sli E 0 rs.length c), (i64 v)] M [ttT 8, ttT 10, ttT 12, ttT 14, ttT 17] 4 = some (.ret, some sln, M, [qT (decide (v < (0 : Int))), qT (decide (v < (0 : Int))), qT (decide (v < (0 : Int))), qT (decide (v < (0 : Int))), qT (decide (v < (0 : Int)))]) := by kernel_rfl
theorem w44_0 (E c : Nat) (rs : List (List Int)) (v : Int) (r : List Int) (ar : Option Addr) (cr : Nat) {M : Mem} (hM : MemOk M) (cc0 : (decide (v < (0 : Int))) = true) : ∃ v_ M', Ev Try.prog [] 31 [(sli E 0 rs.length c), (i64 v)] M v_ M' ∧ Ext M M' ∧ MemOk M' ∧ v_ = sln ∧ M' = M := by
  have hraw := w44_0_raw E c rs v r ar cr M  
  exact ⟨sln, M, Ev.told_tmp noNumP mixedP Try.func31 q31_ok (by kernel_rfl) rK31 (specs_none Try.prog) (fun _ _ => rfl) hraw (hk (bT cc0) (hk (bT cc0) (hk (bT cc0) (hk (bT cc0) (hk (bT cc0) hn))))), (Ext.refl M), hM, ⟨rfl, rfl⟩⟩
theorem w44_1_raw (E c : Nat) (rs : List (List Int)) (v : Int) (r : List Int) (ar : Option Addr) (cr : Nat) (M : Mem)  : oT Try.prog [] 51 Try.f31 q31 [(sli E 0 rs.length c), (i64 v)] M [ttF 8, ttF 10, ttF 12, ttF 14, ttF 17, ttT 18] 4 = some (.ret, some sln, M, [qF (decide (v < (0 : Int))), qF (decide (v < (0 : Int))), qF (decide (v < (0 : Int))), qF (decide (v < (0 : Int))), qF (decide (v < (0 : Int))), qT (decide (v ≥ (((rs.length : Nat) : Int))))]) := by kernel_rfl
theorem w44_1 (E c : Nat) (rs : List (List Int)) (v : Int) (r : List Int) (ar : Option Addr) (cr : Nat) {M : Mem} (hM : MemOk M) (cc0 : (decide (v < (0 : Int))) = false) (cc1 : (decide (v ≥ (((rs.length : Nat) : Int)))) = true) : ∃ v_ M', Ev Try.prog [] 31 [(sli E 0 rs.length c), (i64 v)] M v_ M' ∧ Ext M M' ∧ MemOk M' ∧ v_ = sln ∧ M' = M := by
  have hraw := w44_1_raw E c rs v r ar cr M  
  exact ⟨sln, M, Ev.told_tmp noNumP mixedP Try.func31 q31_ok (by kernel_rfl) rK31 (specs_none Try.prog) (fun _ _ => rfl) hraw (hk (bF cc0) (hk (bF cc0) (hk (bF cc0) (hk (bF cc0) (hk (bF cc0) (hk (bT cc1) hn)))))), (Ext.refl M), hM, ⟨rfl, rfl⟩⟩
theorem w44_2_raw (E c : Nat) (rs : List (List Int)) (v : Int) (r : List Int) (ar : Option Addr) (cr : Nat) (M : Mem)  : oT Try.prog [] 51 Try.f31 q31 [(sli E 0 rs.length c), (i64 v)] M [ttF 8, ttF 10, ttF 12, ttF 14, ttF 17, ttF 18, ttT 24, ttL 26 (.slice ar r.length cr)] 4 = some (.ret, some (.slice ar r.length cr), M, [qF (decide (v < (0 : Int))), qF (decide (v < (0 : Int))), qF (decide (v < (0 : Int))), qF (decide (v < (0 : Int))), qF (decide (v < (0 : Int))), qF (decide (v ≥ (((rs.length : Nat) : Int)))), .q (.inb v rs.length) (ansB true), qL 22 E (0 + (v : Int).toNat * 1) M (.slice ar r.length cr)]) := by kernel_rfl
theorem w44_2 (E c : Nat) (rs : List (List Int)) (v : Int) (r : List Int) (ar : Option Addr) (cr : Nat) {M : Mem} (hM : MemOk M) (cc0 : (decide (v < (0 : Int))) = false) (cc1 : (decide (v ≥ (((rs.length : Nat) : Int)))) = false) (hi0 : 0 ≤ (v : Int) ∧ (v : Int) < rs.length) (hld1 : aload Try.prog 22 ⟨E, 0 + (v : Int).toNat * 1, none⟩ M = some (.slice ar r.length cr)) : ∃ v_ M', Ev Try.prog [] 31 [(sli E 0 rs.length c), (i64 v)] M v_ M' ∧ Ext M M' ∧ MemOk M' ∧ v_ = (.slice ar r.length cr) ∧ M' = M := by
  have hraw := w44_2_raw E c rs v r ar cr M  
  exact ⟨(.slice ar r.length cr), M, Ev.told_tmp noNumP mixedP Try.func31 q31_ok (by kernel_rfl) rK31 (specs_none Try.prog) (fun _ _ => rfl) hraw (hk (bF cc0) (hk (bF cc0) (hk (bF cc0) (hk (bF cc0) (hk (bF cc0) (hk (bF cc1) (hk (q_inb hi0.1 hi0.2) (hk (q_ld (hld1)) hn)))))))), (Ext.refl M), hM, ⟨rfl, rfl⟩⟩
abbrev Q31 := FC (as2 pRowss pI) (plain pInts) (fun x => rowV x.1 x.2)
theorem con31 {x : List (List Int) × Int} {lv : List Value} {M : Mem} (hM : MemOk M) (h : (as2 pRowss pI) x lv M) : ∃ v M', Con Try.prog [] 31 Q31 lv M v M' := by
  refine FC.con h ?_
  obtain ⟨g0, g1, rfl, k0, k1⟩ := h
  obtain ⟨rs, v⟩ := x
  obtain rfl := k1
  obtain ⟨E, c, rfl⟩ := rowss_form k0
  by_cases h0 : v < 0
  · obtain ⟨v', M', h1, h2, _, rfl, rfl⟩ := w44_0 E c rs v [] none 0 hM (decide_eq_true h0)
    refine ⟨_, _, h1, h2, ?_⟩
    show pInts (rowV rs v) _ _
    rw [show rowV rs v = [] by unfold rowV; rw [if_neg (by omega)]]
    exact GRowsAt.nil none
  · by_cases h1 : v < (rs.length : Int)
    · have hu : rs[v.toNat]? = some rs[v.toNat] := List.getElem?_eq_getElem (by omega)
      obtain ⟨ar, cr, h2, h3⟩ := ld_rowss (P := Try.prog) (ty := 22) k0 hu dC22
      obtain ⟨v', M', k1, k2, _, rfl, rfl⟩ := w44_2 E c rs v rs[v.toNat] ar cr hM (decide_eq_false h0) (decide_eq_false (by omega)) (by omega) h2
      refine ⟨_, _, k1, k2, ?_⟩
      show pInts (rowV rs v) _ _
      rw [show rowV rs v = rs[v.toNat] by unfold rowV; rw [if_pos (by omega), hu]; rfl]
      exact h3
    · obtain ⟨v', M', k1, k2, _, rfl, rfl⟩ := w44_1 E c rs v [] none 0 hM (decide_eq_false h0) (decide_eq_true (by omega))
      refine ⟨_, _, k1, k2, ?_⟩
      show pInts (rowV rs v) _ _
      rw [show rowV rs v = [] by unfold rowV; rw [if_pos (by omega), List.getElem?_eq_none (by omega)]; rfl]
      exact GRowsAt.nil none
theorem rK13 : Try.f13.results = #[.tmp 4] := by kernel_rfl
theorem hS32_44 (B : Bd) : ∀ p ∈ ([(31, pick (Con Try.prog [] 31 Q31))] : List (FuncId × (List Value → Mem → Option (Value × Mem)))), SpecOk Try.prog [] B p.1 p.2 := (fun p hp => by simp only [List.mem_cons, List.not_mem_nil, or_false] at hp; rcases hp with rfl <;> first | exact Con.ok _)
theorem w32_raw (ab Eo Ei : Nat) (co ci : Nat) (at_ : Option Addr) (ct : Nat) (as_ : Option Addr) (cs_ : Nat) (ad : AdjM) (v : Int) (M : Mem) (a1 : Option Addr) (c2 : Nat) (M6 : Mem) (v16 : Value) (M17 : Mem) : oT Try.prog [] 51 Try.f13 q13 [(pt ab 0), (i64 v)] M [ttL 9 (sli Eo 0 ad.out.length co), ttV 13 (.slice a1 (rowV ad.out v).length c2) M6, ttV 15 v16 M17] 4 = some (.ret, some v16, M17, [qL 46 ab 0 M (sli Eo 0 ad.out.length co), qC 31 [(sli Eo 0 ad.out.length co), (i64 v)] M (.slice a1 (rowV ad.out v).length c2) M6, .q (.append [22, 22] sln (.slice a1 (rowV ad.out v).length c2) M6) (1, .val v16, M17)]) := by kernel_rfl
theorem w32 (ab Eo Ei : Nat) (co ci : Nat) (at_ : Option Addr) (ct : Nat) (as_ : Option Addr) (cs_ : Nat) (ad : AdjM) (v : Int) {M : Mem} (hM : MemOk M) (gab : M.get ab = some ⟨[sli Eo 0 ad.out.length co, sli Ei 0 ad.inn.length ci, .slice at_ ad.to.length ct, .slice as_ ad.set.length cs_], 48, 4, 0, true⟩) (hout : pRowss ad.out (sli Eo 0 ad.out.length co) M) (hinn : pRowss ad.inn (sli Ei 0 ad.inn.length ci) M) (hto : pInts ad.to (.slice at_ ad.to.length ct) M) (hset : pInts ad.set (.slice as_ ad.set.length cs_) M) (hok : okA ad) : ∃ v_ M', Ev Try.prog [] 13 [(pt ab 0), (i64 v)] M v_ M' ∧ Ext M M' ∧ MemOk M' ∧ newR pInts (rowV ad.out v) M.next v_ M' := by
  have ltabM6 := Mem.lt_of_get gab
  obtain ⟨w4, N5, M6, p7, l8, e9, E10, hM11, F12⟩ := call_fc (x := (ad.out, v)) hM con31 (⟨_, _, rfl, AP.Ext (R := pRowss) hout (Ext.refl M), rfl⟩)
  have nx13 := E10.next
  have g14 := E10.old gab
  have G3 : pInts (rowV ad.out v) w4 M6 := F12
  obtain ⟨a1, c2, ew4⟩ := GRowsAt.form G3
  subst ew4
  have X15 := (Ext.refl M).trans E10
  obtain ⟨v16, M17, q18, F21, E19, hM20, nw22⟩ := append_rowN (P := Try.prog) (sT := 22) (xT := 22) (elem := 3) (w := 1) (y := 8) hM11 (by kernel_rfl) (by kernel_rfl) (by kernel_rfl) (by decide) (by decide) rfl G3 (rowV_ok (p := fun r => r.length ≤ 1073741824) (fun r hr => Nat.le_trans (hok.1 r hr).1 (by decide)) (by decide) v) (fun _ _ => rfl)
  have F23 := AP.Ext (R := pInts) G3 E19
  have g24 := E19.old g14
  have X25 := X15.trans E19
  have hraw := w32_raw ab Eo Ei co ci at_ ct as_ cs_ ad v M  a1 c2 M6 v16 M17
  exact ⟨v16, M17, Ev.told_tmp noNumP mixedP Try.func13 q13_ok (by kernel_rfl) rK13 (fun B => specsB_ok (k := []) (hS32_44 B) (fun p hp => by cases hp)) (fun _ _ => rfl) hraw (hk (lC dC46 gab rfl) (hk (q_call rfl p7 l8 e9) (hk (q_app q18 Nat.one_ne_zero) hn))), X25, hM20, nw_new (X15).next (fun _ _ => rfl) (Nat.le_trans (rowV_ok (p := fun r => r.length ≤ 400) (fun r hr => (hok.1 r hr).1) (by decide) v) (by decide)) nw22⟩
abbrev Q13 := FC (asP (as2 (pAdj 48) pI) fun x => okA x.1) (newR pInts) (fun x => rowV x.1.out x.2)
theorem con13 {x : AdjM × Int} {lv : List Value} {M : Mem} (hM : MemOk M) (h : (asP (as2 (pAdj 48) pI) fun x : AdjM × Int => okA x.1) x lv M) : ∃ v M', Con Try.prog [] 13 Q13 lv M v M' := by
  refine FC.con h ?_
  obtain ⟨⟨g0, g1, rfl, k0, k1⟩, hok⟩ := h
  obtain ⟨ad, v⟩ := x
  obtain rfl := k1
  obtain ⟨ab, o, i_, t, s, rfl, gab, hout, hinn, hto, hset⟩ := k0
  obtain ⟨Eo, co, rfl⟩ := rowss_form hout
  obtain ⟨Ei, ci, rfl⟩ := rowss_form hinn
  obtain ⟨at_, ct, rfl⟩ := GRowsAt.form hto
  obtain ⟨as_, cs_, rfl⟩ := GRowsAt.form hset
  obtain ⟨v', M', h1, h2, _, h3⟩ := w32 ab Eo Ei co ci at_ ct as_ cs_ ad v hM gab hout hinn hto hset hok
  exact ⟨v', M', h1, h2, h3⟩
theorem rK14 : Try.f14.results = #[.tmp 4] := by kernel_rfl
theorem hS33_44 (B : Bd) : ∀ p ∈ ([(31, pick (Con Try.prog [] 31 Q31))] : List (FuncId × (List Value → Mem → Option (Value × Mem)))), SpecOk Try.prog [] B p.1 p.2 := (fun p hp => by simp only [List.mem_cons, List.not_mem_nil, or_false] at hp; rcases hp with rfl <;> first | exact Con.ok _)
theorem w33_raw (ab Eo Ei : Nat) (co ci : Nat) (at_ : Option Addr) (ct : Nat) (as_ : Option Addr) (cs_ : Nat) (ad : AdjM) (v : Int) (M : Mem) (a1 : Option Addr) (c2 : Nat) (M6 : Mem) (v16 : Value) (M17 : Mem) : oT Try.prog [] 51 Try.f14 q14 [(pt ab 0), (i64 v)] M [ttL 9 (sli Ei 0 ad.inn.length ci), ttV 13 (.slice a1 (rowV ad.inn v).length c2) M6, ttV 15 v16 M17] 4 = some (.ret, some v16, M17, [qL 46 ab 1 M (sli Ei 0 ad.inn.length ci), qC 31 [(sli Ei 0 ad.inn.length ci), (i64 v)] M (.slice a1 (rowV ad.inn v).length c2) M6, .q (.append [22, 22] sln (.slice a1 (rowV ad.inn v).length c2) M6) (1, .val v16, M17)]) := by kernel_rfl
theorem w33 (ab Eo Ei : Nat) (co ci : Nat) (at_ : Option Addr) (ct : Nat) (as_ : Option Addr) (cs_ : Nat) (ad : AdjM) (v : Int) {M : Mem} (hM : MemOk M) (gab : M.get ab = some ⟨[sli Eo 0 ad.out.length co, sli Ei 0 ad.inn.length ci, .slice at_ ad.to.length ct, .slice as_ ad.set.length cs_], 48, 4, 0, true⟩) (hout : pRowss ad.out (sli Eo 0 ad.out.length co) M) (hinn : pRowss ad.inn (sli Ei 0 ad.inn.length ci) M) (hto : pInts ad.to (.slice at_ ad.to.length ct) M) (hset : pInts ad.set (.slice as_ ad.set.length cs_) M) (hok : okA ad) : ∃ v_ M', Ev Try.prog [] 14 [(pt ab 0), (i64 v)] M v_ M' ∧ Ext M M' ∧ MemOk M' ∧ newR pInts (rowV ad.inn v) M.next v_ M' := by
  have ltabM6 := Mem.lt_of_get gab
  obtain ⟨w4, N5, M6, p7, l8, e9, E10, hM11, F12⟩ := call_fc (x := (ad.inn, v)) hM con31 (⟨_, _, rfl, AP.Ext (R := pRowss) hinn (Ext.refl M), rfl⟩)
  have nx13 := E10.next
  have g14 := E10.old gab
  have G3 : pInts (rowV ad.inn v) w4 M6 := F12
  obtain ⟨a1, c2, ew4⟩ := GRowsAt.form G3
  subst ew4
  have X15 := (Ext.refl M).trans E10
  obtain ⟨v16, M17, q18, F21, E19, hM20, nw22⟩ := append_rowN (P := Try.prog) (sT := 22) (xT := 22) (elem := 3) (w := 1) (y := 8) hM11 (by kernel_rfl) (by kernel_rfl) (by kernel_rfl) (by decide) (by decide) rfl G3 (rowV_ok (p := fun r => r.length ≤ 1073741824) (fun r hr => Nat.le_trans (hok.2.1 r hr).1 (by decide)) (by decide) v) (fun _ _ => rfl)
  have F23 := AP.Ext (R := pInts) G3 E19
  have g24 := E19.old g14
  have X25 := X15.trans E19
  have hraw := w33_raw ab Eo Ei co ci at_ ct as_ cs_ ad v M  a1 c2 M6 v16 M17
  exact ⟨v16, M17, Ev.told_tmp noNumP mixedP Try.func14 q14_ok (by kernel_rfl) rK14 (fun B => specsB_ok (k := []) (hS33_44 B) (fun p hp => by cases hp)) (fun _ _ => rfl) hraw (hk (lC dC46 gab rfl) (hk (q_call rfl p7 l8 e9) (hk (q_app q18 Nat.one_ne_zero) hn))), X25, hM20, nw_new (X15).next (fun _ _ => rfl) (Nat.le_trans (rowV_ok (p := fun r => r.length ≤ 400) (fun r hr => (hok.2.1 r hr).1) (by decide) v) (by decide)) nw22⟩
abbrev Q14 := FC (asP (as2 (pAdj 48) pI) fun x => okA x.1) (newR pInts) (fun x => rowV x.1.inn x.2)
theorem con14 {x : AdjM × Int} {lv : List Value} {M : Mem} (hM : MemOk M) (h : (asP (as2 (pAdj 48) pI) fun x : AdjM × Int => okA x.1) x lv M) : ∃ v M', Con Try.prog [] 14 Q14 lv M v M' := by
  refine FC.con h ?_
  obtain ⟨⟨g0, g1, rfl, k0, k1⟩, hok⟩ := h
  obtain ⟨ad, v⟩ := x
  obtain rfl := k1
  obtain ⟨ab, o, i_, t, s, rfl, gab, hout, hinn, hto, hset⟩ := k0
  obtain ⟨Eo, co, rfl⟩ := rowss_form hout
  obtain ⟨Ei, ci, rfl⟩ := rowss_form hinn
  obtain ⟨at_, ct, rfl⟩ := GRowsAt.form hto
  obtain ⟨as_, cs_, rfl⟩ := GRowsAt.form hset
  obtain ⟨v', M', h1, h2, _, h3⟩ := w33 ab Eo Ei co ci at_ ct as_ cs_ ad v hM gab hout hinn hto hset hok
  exact ⟨v', M', h1, h2, h3⟩
end Go.Proofs.Ytipnhelkganmdaa
