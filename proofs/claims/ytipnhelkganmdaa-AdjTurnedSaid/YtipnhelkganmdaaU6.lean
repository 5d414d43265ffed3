/-
  Package adj: each of its laws for every argument; no conditions. The last text states which.
-/
import Derived.Test.YtipnhelkganmdaaU5
import Derived.Test.YtipnhelkganmdaaGAmTn
open Go Go.Am Go.Proofs
namespace Go.Proofs.Ytipnhelkganmdaa
set_option maxRecDepth 100000
set_option linter.unusedVariables false
set_option linter.unusedSimpArgs false
theorem hS4_17 (B : Bd) : ∀ p ∈ ([(17, pick (Con Try.prog [] 17 Q17))] : List (FuncId × (List Value → Mem → Option (Value × Mem)))), SpecOk Try.prog [] B p.1 p.2 := (fun p hp => by simp only [List.mem_cons, List.not_mem_nil, or_false] at hp; rcases hp with rfl <;> first | exact Con.ok _ | exact TC.ok _)
theorem r4i_raw (ab i k m lb lo cl cr : Nat) (ar : Option Addr) (s x : Int) (VB : Value) (r : List Int) (M : Mem) (M3 : Mem) : oR Try.prog [] 60 Try.f4 (q4.loopAt 2) [(12, (pt ab 0)), (14, (i64 s)), (15, (.slice ar r.length cr)), (16, VB), (17, (i64 (((i : Nat) : Int)))), (18, (sli lb lo m cl)), (19, (i64 (((k : Nat) : Int))))] M [ttT 8, ttT 16, ttL 18 (i64 x), ttV 20 (.bool true) M3] [12, 14, 15, 16, 17, 18, 19] = some (.normal, [some (pt ab 0), some (i64 s), some (.slice ar r.length cr), some VB, some (i64 (((i : Nat) : Int))), some (sli lb lo m cl), some (i64 (IntKind.wrap .i64 ((((k : Nat) : Int)) + (1 : Int))))], M3, [qT (decide ((((k : Nat) : Int)) < (((m : Nat) : Int)))), .q (.inb (((k : Nat) : Int)) m) (ansB true), qL 3 lb (lo + (((k : Nat) : Int) : Int).toNat * 1) M (i64 x), qC 17 [(.slice ar r.length cr), (i64 x)] M (.bool true) M3]) := by kernel_rfl
theorem r4i (ab i k m lb lo cl cr : Nat) (ar : Option Addr) (s x : Int) (VB : Value) (r : List Int) {M M0 : Mem} (hM : MemOk M) (X0 : Ext M0 M) (hr : pInts r (.slice ar r.length cr) M0) (hm : x ∈ r) (cc0 : (decide ((((k : Nat) : Int)) < (((m : Nat) : Int)))) = true) (hld0 : aload Try.prog 3 ⟨lb, lo + (((k : Nat) : Int) : Int).toNat * 1, none⟩ M0 = some (i64 x)) : ∃ T1 M', Rd Try.prog [] (q4.loopAt 2) Try.f4.ntmps (fr [(12, (pt ab 0)), (14, (i64 s)), (15, (.slice ar r.length cr)), (16, VB), (17, (i64 (((i : Nat) : Int)))), (18, (sli lb lo m cl)), (19, (i64 (((k : Nat) : Int))))]) M .normal T1 M' ∧ [12, 14, 15, 16, 17, 18, 19].map T1.get = [some (pt ab 0), some (i64 s), some (.slice ar r.length cr), some VB, some (i64 (((i : Nat) : Int))), some (sli lb lo m cl), some (i64 (IntKind.wrap .i64 ((((k : Nat) : Int)) + (1 : Int))))] ∧ Ext M0 M' ∧ MemOk M' := by
  obtain ⟨w1, N2, M3, p4, l5, e6, E7, hM8, F9⟩ := call_fc (x := (r, x)) hM con17 (⟨_, _, rfl, AP.Ext (R := pInts) hr X0, rfl⟩)
  have nx10 := E7.next
  have ew1 : w1 = .bool true := (show w1 = .bool (decide (x ∈ r)) from F9).trans (congrArg Value.bool (decide_eq_true hm))
  subst ew1
  have X11 := X0.trans E7
  have hraw := r4i_raw ab i k m lb lo cl cr ar s x VB r M  M3
  obtain ⟨T1, h1, h2⟩ := Rd.told noNumP mixedP (fun B => specsB_ok (k := []) (hS4_17 B) (fun p hp => by cases hp)) (fun _ _ => rfl) hraw (hk (bT cc0) (hk (q_inb (by omega) (by simp at cc0; omega)) (hk (q_ld (aload_ext X0 hld0)) (hk (q_call rfl p4 l5 e6) hn))))
  exact ⟨T1, M3, h1, h2, X11, hM8⟩
theorem r4ix_raw (ab i k m cl cr : Nat) (ar al : Option Addr) (s : Int) (VB : Value) (r : List Int) (M : Mem)  : oR Try.prog [] 60 Try.f4 (q4.loopAt 2) [(12, (pt ab 0)), (14, (i64 s)), (15, (.slice ar r.length cr)), (16, VB), (17, (i64 (((i : Nat) : Int)))), (18, (.slice al m cl)), (19, (i64 (((k : Nat) : Int))))] M [ttT 5, ttF 8] [12, 14, 15, 16, 17] = some ((.exit 2), [some (pt ab 0), some (i64 s), some (.slice ar r.length cr), some VB, some (i64 (((i : Nat) : Int)))], M, [.ln al m cl, qF (decide ((((k : Nat) : Int)) < (((m : Nat) : Int))))]) := by kernel_rfl
theorem r4ix (ab i k m cl cr : Nat) (ar al : Option Addr) (s : Int) (VB : Value) (r : List Int) {M : Mem} (hln : al.isNone = true → m = 0 ∧ cl = 0) (cc0 : (decide ((((k : Nat) : Int)) < (((m : Nat) : Int)))) = false) : ∃ T1, Rd Try.prog [] (q4.loopAt 2) Try.f4.ntmps (fr [(12, (pt ab 0)), (14, (i64 s)), (15, (.slice ar r.length cr)), (16, VB), (17, (i64 (((i : Nat) : Int)))), (18, (.slice al m cl)), (19, (i64 (((k : Nat) : Int))))]) M (.exit 2) T1 M ∧ [12, 14, 15, 16, 17].map T1.get = [some (pt ab 0), some (i64 s), some (.slice ar r.length cr), some VB, some (i64 (((i : Nat) : Int)))] := by
  have hraw := r4ix_raw ab i k m cl cr ar al s VB r M  
  obtain ⟨T1, h1, h2⟩ := Rd.told noNumP mixedP (specs_none Try.prog) (fun _ _ => rfl) hraw (hk (lN hln) (hk (bF cc0) hn))
  exact ⟨T1, h1, h2⟩
theorem loop4i {ab i cl cr : Nat} {ar al : Option Addr} {s : Int} {VB : Value} {r l : List Int} {M : Mem} (hM : MemOk M) (hr : pInts r (.slice ar r.length cr) M) (hl : pInts l (.slice al l.length cl) M) (hm : ∀ x ∈ l, x ∈ r) (hll : l.length ≤ 60) :
    ∃ M', LoopR Try.prog [] (q4.loopAt 2) Try.f4.ntmps (fr [(12, pt ab 0), (14, i64 s), (15, .slice ar r.length cr), (16, VB), (17, i64 ((i : Nat) : Int)), (18, .slice al l.length cl), (19, i64 ((0 : Nat) : Int))]) M (.exit 2) (fr [(12, pt ab 0), (14, i64 s), (15, .slice ar r.length cr), (16, VB), (17, i64 ((i : Nat) : Int))]) M' ∧ Ext M M' ∧ MemOk M' := by
  obtain ⟨_, M', h1, h2, h3⟩ := LoopR.for (P := Try.prog) (GL := []) (b := q4.loopAt 2) (nt := Try.f4.ntmps) (id := 2) (σ := Unit) (n := l.length) (Inv := fun _ _ M1 => Ext M M1 ∧ MemOk M1)
    (F := fun k _ => [(12, pt ab 0), (14, i64 s), (15, .slice ar r.length cr), (16, VB), (17, i64 ((i : Nat) : Int)), (18, .slice al l.length cl), (19, i64 ((k : Nat) : Int))]) (O := fun _ => [(12, pt ab 0), (14, i64 s), (15, .slice ar r.length cr), (16, VB), (17, i64 ((i : Nat) : Int))])
    (by
      rintro k _ M1 hi ⟨X1, hM1⟩
      obtain ⟨lb, lo, rfl, _⟩ := form_pos hl (by omega)
      have lx := ld_one (P := Try.prog) (ty := 3) hl (List.getElem?_eq_getElem hi) rfl dC3
      obtain ⟨T1, M2, h1, h2, h3, h4⟩ := r4i ab i k l.length lb lo cl cr ar s l[k] VB r hM1 X1 hr (hm _ (List.getElem_mem hi)) (decide_eq_true (by omega)) lx
      rw [wrap_succ (by omega)] at h2
      exact ⟨(), T1, M2, h1, h2, h3, h4⟩)
    (by
      rintro _ M1 ⟨X1, hM1⟩
      exact r4ix ab i l.length l.length cl cr ar al s VB r (M := M1) hl.ln (decide_eq_false (by omega)))
    l.length 0 (by omega) (s := ()) (M := M) ⟨Ext.refl M, hM⟩
  exact ⟨M', h1, h2, h3⟩
theorem hS4_16_17 (B : Bd) : ∀ p ∈ ([(16, pick (Con Try.prog [] 16 Q16)), (17, pick (Con Try.prog [] 17 Q17))] : List (FuncId × (List Value → Mem → Option (Value × Mem)))), SpecOk Try.prog [] B p.1 p.2 := (fun p hp => by simp only [List.mem_cons, List.not_mem_nil, or_false] at hp; rcases hp with rfl | rfl <;> first | exact Con.ok _ | exact TC.ok _)
theorem r4o3_raw (ab i rb ro cr cg : Nat) (ag : Option Addr) (s x y : Int) (r g : List Int) (ad : AdjM) (M : Mem) (M3 : Mem) (a12 : Option Addr) (c13 : Nat) (M17 : Mem) (M26 : Mem) : oR Try.prog [2] 120 Try.f4 (q4.loopAt 0) [(12, (pt ab 0)), (14, (i64 s)), (15, (sli rb ro r.length cr)), (16, (.slice ag g.length cg)), (17, (i64 (((i : Nat) : Int))))] M [ttT 8, ttT 16, ttL 18 (i64 x), ttV 20 (.bool true) M3, ttT 31, ttT 33, ttT 35, ttT 37, ttT 38, ttT 39, ttL 40 (i64 y), ttT 41, ttT 43, ttT 45, ttT 46, ttT 47, ttL 48 (i64 x), ttT 49, ttT 52, ttF 55, ttT 63, ttL 65 (i64 x), ttV 69 (.slice a12 (reachL ad s x).length c13) M17, .blk 74 [12, 14, 15, 16, 17, 18, 19] .normal (fr [(12, (pt ab 0)), (14, (i64 s)), (15, (sli rb ro r.length cr)), (16, (.slice ag g.length cg)), (17, (i64 (((i : Nat) : Int))))]) M26] [12, 14, 15, 16, 17] = some (.normal, [some (pt ab 0), some (i64 s), some (sli rb ro r.length cr), some (.slice ag g.length cg), some (i64 (IntKind.wrap .i64 ((((i : Nat) : Int)) + (1 : Int))))], M26, [qT (decide ((((i : Nat) : Int)) < (((r.length : Nat) : Int)))), .q (.inb (((i : Nat) : Int)) r.length) (ansB true), qL 3 rb (ro + (((i : Nat) : Int) : Int).toNat * 1) M (i64 x), qC 17 [(.slice ag g.length cg), (i64 x)] M (.bool true) M3, qT (decide ((((i : Nat) : Int)) > (0 : Int))), qT (decide ((((i : Nat) : Int)) > (0 : Int))), qT (decide ((((i : Nat) : Int)) > (0 : Int))), qT (decide ((((i : Nat) : Int)) > (0 : Int))), .q (.inb (IntKind.wrap .i64 ((((i : Nat) : Int)) - (1 : Int))) r.length) (ansB true), qT (decide ((((i : Nat) : Int)) > (0 : Int))), qL 3 rb (ro + (IntKind.wrap .i64 ((((i : Nat) : Int)) - (1 : Int)) : Int).toNat * 1) M3 (i64 y), qT (decide ((((i : Nat) : Int)) > (0 : Int))), qT (decide ((((i : Nat) : Int)) > (0 : Int))), qT (decide ((((i : Nat) : Int)) > (0 : Int))), .q (.inb (((i : Nat) : Int)) r.length) (ansB true), qT (decide ((((i : Nat) : Int)) > (0 : Int))), qL 3 rb (ro + (((i : Nat) : Int) : Int).toNat * 1) M3 (i64 x), qT (decide ((((i : Nat) : Int)) > (0 : Int))), qT (decide ((((i : Nat) : Int)) > (0 : Int))), qF (decide (y ≥ x)), .q (.inb (((i : Nat) : Int)) r.length) (ansB true), qL 3 rb (ro + (((i : Nat) : Int) : Int).toNat * 1) M3 (i64 x), qC 16 [(pt ab 0), (i64 x), (i64 s)] M3 (.slice a12 (reachL ad s x).length c13) M17, .blk 2 (.loop (q4.loopAt 2)) Try.f4.ntmps [12, 14, 15, 16, 17, 18, 19] [some (pt ab 0), some (i64 s), some (sli rb ro r.length cr), some (.slice ag g.length cg), some (i64 (((i : Nat) : Int))), some (.slice a12 (reachL ad s x).length c13), some (i64 0)] M17 .normal (fr [(12, (pt ab 0)), (14, (i64 s)), (15, (sli rb ro r.length cr)), (16, (.slice ag g.length cg)), (17, (i64 (((i : Nat) : Int))))]) M26]) := by kernel_rfl
theorem r4o3 (ab i rb ro cr cg : Nat) (ag : Option Addr) (s x y : Int) (r g : List Int) (ad : AdjM) {M M0 : Mem} (hM : MemOk M) (X0 : Ext M0 M) (hr : pInts r (sli rb ro r.length cr) M0) (hg : pInts g (.slice ag g.length cg) M0) (hadj : pAdj 48 ad (pt ab 0) M0) (hok : okR ad) (hn60 : ad.out.length ≤ 60) (hm : x ∈ g) (hsub : ∀ w ∈ reachL ad s x, w ∈ r) (cc0 : (decide ((((i : Nat) : Int)) < (((r.length : Nat) : Int)))) = true) (cc1 : (decide ((((i : Nat) : Int)) > (0 : Int))) = true) (cc2 : (decide (y ≥ x)) = false) (hld0 : aload Try.prog 3 ⟨rb, ro + (((i : Nat) : Int) : Int).toNat * 1, none⟩ M0 = some (i64 x)) (hi1 : 0 ≤ (IntKind.wrap .i64 ((((i : Nat) : Int)) - (1 : Int)) : Int) ∧ (IntKind.wrap .i64 ((((i : Nat) : Int)) - (1 : Int)) : Int) < r.length) (hld2 : aload Try.prog 3 ⟨rb, ro + (IntKind.wrap .i64 ((((i : Nat) : Int)) - (1 : Int)) : Int).toNat * 1, none⟩ M0 = some (i64 y)) : ∃ T1 M', Rd Try.prog [] (q4.loopAt 0) Try.f4.ntmps (fr [(12, (pt ab 0)), (14, (i64 s)), (15, (sli rb ro r.length cr)), (16, (.slice ag g.length cg)), (17, (i64 (((i : Nat) : Int))))]) M .normal T1 M' ∧ [12, 14, 15, 16, 17].map T1.get = [some (pt ab 0), some (i64 s), some (sli rb ro r.length cr), some (.slice ag g.length cg), some (i64 (IntKind.wrap .i64 ((((i : Nat) : Int)) + (1 : Int))))] ∧ Ext M0 M' ∧ MemOk M' := by
  obtain ⟨w1, N2, M3, p4, l5, e6, E7, hM8, F9⟩ := call_fc (x := (g, x)) hM con17 (⟨_, _, rfl, AP.Ext (R := pInts) hg X0, rfl⟩)
  have nx10 := E7.next
  have ew1 : w1 = .bool true := (show w1 = .bool (decide (x ∈ g)) from F9).trans (congrArg Value.bool (decide_eq_true hm))
  subst ew1
  have X11 := X0.trans E7
  obtain ⟨w15, N16, M17, p18, l19, e20, E21, hM22, F23⟩ := call_fc (x := (ad, x, s)) hM8 con16 (⟨⟨_, _, _, rfl, AP.Ext (R := (pAdj 48)) hadj X11, rfl, rfl⟩, hok, hn60⟩)
  have nx24 := E21.next
  have G14 : pInts (reachL ad s x) w15 M17 := newR.out (R := pInts) F23
  obtain ⟨a12, c13, ew15⟩ := GRowsAt.form G14
  subst ew15
  have X25 := X11.trans E21
  obtain ⟨M26, hL27, E28, hM29⟩ := loop4i hM22 (AP.Ext (R := pInts) hr X25) G14 hsub (Nat.le_trans (reachL_len _ _ _) hn60)
  have nx30 := E28.next
  have F31 := AP.Ext (R := pInts) G14 E28
  have X32 := X25.trans E28
  have hraw := r4o3_raw ab i rb ro cr cg ag s x y r g ad M  M3 a12 c13 M17 M26
  obtain ⟨T1, h1, h2⟩ := Rd.told noNumP mixedP (fun B => specsB_ok (hS4_16_17 B) (k := [(2, bone (.loop (q4.loopAt 2)) Try.f4.ntmps [12, 14, 15, 16, 17, 18, 19] [some (pt ab 0), some (i64 s), some (sli rb ro r.length cr), some (.slice ag g.length cg), some (i64 (((i : Nat) : Int))), some (.slice a12 (reachL ad s x).length c13), some (i64 0)] M17 .normal (fr [(12, (pt ab 0)), (14, (i64 s)), (15, (sli rb ro r.length cr)), (16, (.slice ag g.length cg)), (17, (i64 (((i : Nat) : Int))))]) M26)]) (fun p hp => by simp only [List.mem_cons, List.not_mem_nil, or_false] at hp; rcases hp with rfl <;> first | exact BlkOk.loop noNumP mixedP hL27)) (fun _ h => blksF_one h) hraw (hk (bT cc0) (hk (q_inb (by omega) (by simp at cc0; omega)) (hk (q_ld (aload_ext X0 hld0)) (hk (q_call rfl p4 l5 e6) (hk (bT cc1) (hk (bT cc1) (hk (bT cc1) (hk (bT cc1) (hk (q_inb hi1.1 hi1.2) (hk (bT cc1) (hk (q_ld (aload_ext X11 hld2)) (hk (bT cc1) (hk (bT cc1) (hk (bT cc1) (hk (q_inb (by omega) (by simp at cc0; omega)) (hk (bT cc1) (hk (q_ld (aload_ext X11 hld0)) (hk (bT cc1) (hk (bT cc1) (hk (bF cc2) (hk (q_inb (by omega) (by simp at cc0; omega)) (hk (q_ld (aload_ext X11 hld0)) (hk (q_call rfl p18 l19 e20) (hk (q_blk rfl) hn))))))))))))))))))))))))
  exact ⟨T1, M26, h1, h2, X32, hM29⟩
theorem r4o2_raw (ab i rb ro cr cg : Nat) (ag : Option Addr) (s x y : Int) (r g : List Int) (ad : AdjM) (M : Mem) (M3 : Mem) (a12 : Option Addr) (c13 : Nat) (M17 : Mem) (M26 : Mem) : oR Try.prog [2] 120 Try.f4 (q4.loopAt 0) [(12, (pt ab 0)), (14, (i64 s)), (15, (sli rb ro r.length cr)), (16, (.slice ag g.length cg)), (17, (i64 (((i : Nat) : Int))))] M [ttT 8, ttT 16, ttL 18 (i64 x), ttV 20 (.bool true) M3, ttF 31, ttF 33, ttF 35, ttF 37, ttF 39, ttF 41, ttF 43, ttF 45, ttF 47, ttF 49, ttF 52, ttT 63, ttL 65 (i64 x), ttV 69 (.slice a12 (reachL ad s x).length c13) M17, .blk 74 [12, 14, 15, 16, 17, 18, 19] .normal (fr [(12, (pt ab 0)), (14, (i64 s)), (15, (sli rb ro r.length cr)), (16, (.slice ag g.length cg)), (17, (i64 (((i : Nat) : Int))))]) M26] [12, 14, 15, 16, 17] = some (.normal, [some (pt ab 0), some (i64 s), some (sli rb ro r.length cr), some (.slice ag g.length cg), some (i64 (IntKind.wrap .i64 ((((i : Nat) : Int)) + (1 : Int))))], M26, [qT (decide ((((i : Nat) : Int)) < (((r.length : Nat) : Int)))), .q (.inb (((i : Nat) : Int)) r.length) (ansB true), qL 3 rb (ro + (((i : Nat) : Int) : Int).toNat * 1) M (i64 x), qC 17 [(.slice ag g.length cg), (i64 x)] M (.bool true) M3, qF (decide ((((i : Nat) : Int)) > (0 : Int))), qF (decide ((((i : Nat) : Int)) > (0 : Int))), qF (decide ((((i : Nat) : Int)) > (0 : Int))), qF (decide ((((i : Nat) : Int)) > (0 : Int))), qF (decide ((((i : Nat) : Int)) > (0 : Int))), qF (decide ((((i : Nat) : Int)) > (0 : Int))), qF (decide ((((i : Nat) : Int)) > (0 : Int))), qF (decide ((((i : Nat) : Int)) > (0 : Int))), qF (decide ((((i : Nat) : Int)) > (0 : Int))), qF (decide ((((i : Nat) : Int)) > (0 : Int))), qF (decide ((((i : Nat) : Int)) > (0 : Int))), .q (.inb (((i : Nat) : Int)) r.length) (ansB true), qL 3 rb (ro + (((i : Nat) : Int) : Int).toNat * 1) M3 (i64 x), qC 16 [(pt ab 0), (i64 x), (i64 s)] M3 (.slice a12 (reachL ad s x).length c13) M17, .blk 2 (.loop (q4.loopAt 2)) Try.f4.ntmps [12, 14, 15, 16, 17, 18, 19] [some (pt ab 0), some (i64 s), some (sli rb ro r.length cr), some (.slice ag g.length cg), some (i64 (((i : Nat) : Int))), some (.slice a12 (reachL ad s x).length c13), some (i64 0)] M17 .normal (fr [(12, (pt ab 0)), (14, (i64 s)), (15, (sli rb ro r.length cr)), (16, (.slice ag g.length cg)), (17, (i64 (((i : Nat) : Int))))]) M26]) := by kernel_rfl
theorem r4o2 (ab i rb ro cr cg : Nat) (ag : Option Addr) (s x y : Int) (r g : List Int) (ad : AdjM) {M M0 : Mem} (hM : MemOk M) (X0 : Ext M0 M) (hr : pInts r (sli rb ro r.length cr) M0) (hg : pInts g (.slice ag g.length cg) M0) (hadj : pAdj 48 ad (pt ab 0) M0) (hok : okR ad) (hn60 : ad.out.length ≤ 60) (hm : x ∈ g) (hsub : ∀ w ∈ reachL ad s x, w ∈ r) (cc0 : (decide ((((i : Nat) : Int)) < (((r.length : Nat) : Int)))) = true) (cc1 : (decide ((((i : Nat) : Int)) > (0 : Int))) = false) (hld0 : aload Try.prog 3 ⟨rb, ro + (((i : Nat) : Int) : Int).toNat * 1, none⟩ M0 = some (i64 x)) : ∃ T1 M', Rd Try.prog [] (q4.loopAt 0) Try.f4.ntmps (fr [(12, (pt ab 0)), (14, (i64 s)), (15, (sli rb ro r.length cr)), (16, (.slice ag g.length cg)), (17, (i64 (((i : Nat) : Int))))]) M .normal T1 M' ∧ [12, 14, 15, 16, 17].map T1.get = [some (pt ab 0), some (i64 s), some (sli rb ro r.length cr), some (.slice ag g.length cg), some (i64 (IntKind.wrap .i64 ((((i : Nat) : Int)) + (1 : Int))))] ∧ Ext M0 M' ∧ MemOk M' := by
  obtain ⟨w1, N2, M3, p4, l5, e6, E7, hM8, F9⟩ := call_fc (x := (g, x)) hM con17 (⟨_, _, rfl, AP.Ext (R := pInts) hg X0, rfl⟩)
  have nx10 := E7.next
  have ew1 : w1 = .bool true := (show w1 = .bool (decide (x ∈ g)) from F9).trans (congrArg Value.bool (decide_eq_true hm))
  subst ew1
  have X11 := X0.trans E7
  obtain ⟨w15, N16, M17, p18, l19, e20, E21, hM22, F23⟩ := call_fc (x := (ad, x, s)) hM8 con16 (⟨⟨_, _, _, rfl, AP.Ext (R := (pAdj 48)) hadj X11, rfl, rfl⟩, hok, hn60⟩)
  have nx24 := E21.next
  have G14 : pInts (reachL ad s x) w15 M17 := newR.out (R := pInts) F23
  obtain ⟨a12, c13, ew15⟩ := GRowsAt.form G14
  subst ew15
  have X25 := X11.trans E21
  obtain ⟨M26, hL27, E28, hM29⟩ := loop4i hM22 (AP.Ext (R := pInts) hr X25) G14 hsub (Nat.le_trans (reachL_len _ _ _) hn60)
  have nx30 := E28.next
  have F31 := AP.Ext (R := pInts) G14 E28
  have X32 := X25.trans E28
  have hraw := r4o2_raw ab i rb ro cr cg ag s x y r g ad M  M3 a12 c13 M17 M26
  obtain ⟨T1, h1, h2⟩ := Rd.told noNumP mixedP (fun B => specsB_ok (hS4_16_17 B) (k := [(2, bone (.loop (q4.loopAt 2)) Try.f4.ntmps [12, 14, 15, 16, 17, 18, 19] [some (pt ab 0), some (i64 s), some (sli rb ro r.length cr), some (.slice ag g.length cg), some (i64 (((i : Nat) : Int))), some (.slice a12 (reachL ad s x).length c13), some (i64 0)] M17 .normal (fr [(12, (pt ab 0)), (14, (i64 s)), (15, (sli rb ro r.length cr)), (16, (.slice ag g.length cg)), (17, (i64 (((i : Nat) : Int))))]) M26)]) (fun p hp => by simp only [List.mem_cons, List.not_mem_nil, or_false] at hp; rcases hp with rfl <;> first | exact BlkOk.loop noNumP mixedP hL27)) (fun _ h => blksF_one h) hraw (hk (bT cc0) (hk (q_inb (by omega) (by simp at cc0; omega)) (hk (q_ld (aload_ext X0 hld0)) (hk (q_call rfl p4 l5 e6) (hk (bF cc1) (hk (bF cc1) (hk (bF cc1) (hk (bF cc1) (hk (bF cc1) (hk (bF cc1) (hk (bF cc1) (hk (bF cc1) (hk (bF cc1) (hk (bF cc1) (hk (bF cc1) (hk (q_inb (by omega) (by simp at cc0; omega)) (hk (q_ld (aload_ext X11 hld0)) (hk (q_call rfl p18 l19 e20) (hk (q_blk rfl) hn)))))))))))))))))))
  exact ⟨T1, M26, h1, h2, X32, hM29⟩
theorem r4ox_raw (ab i m cr cg : Nat) (ar ag : Option Addr) (s : Int) (g : List Int) (M : Mem)  : oR Try.prog [] 60 Try.f4 (q4.loopAt 0) [(12, (pt ab 0)), (14, (i64 s)), (15, (.slice ar m cr)), (16, (.slice ag g.length cg)), (17, (i64 (((i : Nat) : Int))))] M [ttT 5, ttF 8] [] = some ((.exit 0), [], M, [.ln ar m cr, qF (decide ((((i : Nat) : Int)) < (((m : Nat) : Int))))]) := by kernel_rfl
theorem r4ox (ab i m cr cg : Nat) (ar ag : Option Addr) (s : Int) (g : List Int) {M : Mem} (hln : ar.isNone = true → m = 0 ∧ cr = 0) (cc0 : (decide ((((i : Nat) : Int)) < (((m : Nat) : Int)))) = false) : ∃ T1, Rd Try.prog [] (q4.loopAt 0) Try.f4.ntmps (fr [(12, (pt ab 0)), (14, (i64 s)), (15, (.slice ar m cr)), (16, (.slice ag g.length cg)), (17, (i64 (((i : Nat) : Int))))]) M (.exit 0) T1 M ∧ [].map T1.get = [] := by
  have hraw := r4ox_raw ab i m cr cg ar ag s g M  
  obtain ⟨T1, h1, h2⟩ := Rd.told noNumP mixedP (specs_none Try.prog) (fun _ _ => rfl) hraw (hk (lN hln) (hk (bF cc0) hn))
  exact ⟨T1, h1, h2⟩
theorem loop4o {ab cr cg : Nat} {ar ag : Option Addr} {s : Int} {r g : List Int} {ad : AdjM} {M : Mem} (hM : MemOk M) (hr : pInts r (.slice ar r.length cr) M) (hg : pInts g (.slice ag g.length cg) M) (hadj : pAdj 48 ad (pt ab 0) M) (hok : okR ad) (hn60 : ad.out.length ≤ 60) (hrg : ∀ x ∈ r, x ∈ g) (hsub : ∀ x ∈ r, ∀ w ∈ reachL ad s x, w ∈ r) (hp : r.Pairwise (· < ·)) (hrl : r.length ≤ 60) :
    ∃ M', LoopR Try.prog [] (q4.loopAt 0) Try.f4.ntmps (fr [(12, pt ab 0), (14, i64 s), (15, .slice ar r.length cr), (16, .slice ag g.length cg), (17, i64 ((0 : Nat) : Int))]) M (.exit 0) (fr []) M' ∧ Ext M M' ∧ MemOk M' := by
  obtain ⟨_, M', h1, h2, h3⟩ := LoopR.for (P := Try.prog) (GL := []) (b := q4.loopAt 0) (nt := Try.f4.ntmps) (id := 0) (σ := Unit) (n := r.length) (Inv := fun _ _ M1 => Ext M M1 ∧ MemOk M1)
    (F := fun i _ => [(12, pt ab 0), (14, i64 s), (15, .slice ar r.length cr), (16, .slice ag g.length cg), (17, i64 ((i : Nat) : Int))]) (O := fun _ => [])
    (by
      rintro i _ M1 hi ⟨X1, hM1⟩
      obtain ⟨rb, ro, rfl, _⟩ := form_pos hr (by omega)
      have lx := ld_one (P := Try.prog) (ty := 3) hr (List.getElem?_eq_getElem hi) rfl dC3
      have hm := List.getElem_mem hi
      by_cases h0 : i = 0
      · obtain ⟨T1, M2, h1, h2, h3, h4⟩ := r4o2 ab i rb ro cr cg ag s r[i] 0 r g ad hM1 X1 hr hg hadj hok hn60 (hrg _ hm) (hsub _ hm) (decide_eq_true (by omega)) (decide_eq_false (by omega)) lx
        rw [wrap_succ (by omega)] at h2
        exact ⟨(), T1, M2, h1, h2, h3, h4⟩
      · have hj : i - 1 < r.length := by omega
        have hlt := List.pairwise_iff_getElem.1 hp (i - 1) i hj hi (by omega)
        have wp : IntKind.wrap .i64 ((((i : Nat) : Int)) - (1 : Int)) = ((i - 1 : Nat) : Int) := by
          rw [show (((i : Nat) : Int)) - (1 : Int) = ((i - 1 : Nat) : Int) by omega]
          exact Go.Am.wrap_small (by omega) (by omega)
        have ly := ld_one (P := Try.prog) (ty := 3) hr (List.getElem?_eq_getElem hj) rfl dC3
        obtain ⟨T1, M2, h1, h2, h3, h4⟩ := r4o3 ab i rb ro cr cg ag s r[i] r[i - 1] r g ad hM1 X1 hr hg hadj hok hn60 (hrg _ hm) (hsub _ hm) (decide_eq_true (by omega)) (decide_eq_true (by omega)) (decide_eq_false (by omega)) lx (by rw [wp]; omega) (by rw [wp]; exact ly)
        rw [wrap_succ (by omega)] at h2
        exact ⟨(), T1, M2, h1, h2, h3, h4⟩)
    (by
      rintro _ M1 ⟨X1, hM1⟩
      exact r4ox ab r.length r.length cr cg ar ag s g (M := M1) hr.ln (decide_eq_false (by omega)))
    r.length 0 (by omega) (s := ()) (M := M) ⟨Ext.refl M, hM⟩
  exact ⟨M', h1, h2, h3⟩
theorem rK4 : Try.f4.results = #[.tmp 10] := by kernel_rfl
theorem hS4_10_11_12_15_16_17 (B : Bd) : ∀ p ∈ ([(10, pick (Con Try.prog [] 10 Q10)), (11, pick (Con Try.prog [] 11 Q11)), (12, pick (Con Try.prog [] 12 Q12)), (15, pick (Con Try.prog [] 15 Q15)), (16, pick (Con Try.prog [] 16 Q16)), (17, pick (Con Try.prog [] 17 Q17))] : List (FuncId × (List Value → Mem → Option (Value × Mem)))), SpecOk Try.prog [] B p.1 p.2 := (fun p hp => by simp only [List.mem_cons, List.not_mem_nil, or_false] at hp; rcases hp with rfl | rfl | rfl | rfl | rfl | rfl <;> first | exact Con.ok _ | exact TC.ok _)
theorem w4_raw (size : Int) (ans : Option Addr) (cns : Nat) (ns : List Int) (fro set more : Int) (M : Mem) (M3 : Mem) (a12 : Option Addr) (c13 : Nat) (M18 : Mem) (b27 : Nat) (M28 : Mem) (M37 : Mem) (ab45 : Nat) (M50 : Mem) (M63 : Mem) (M77 : Mem) (a89 : Option Addr) (c90 : Nat) (M94 : Mem) (M108 : Mem) (a121 : Option Addr) (c122 : Nat) (M126 : Mem) (M141 : Mem) (a155 : Option Addr) (c156 : Nat) (M160 : Mem) (M174 : Mem) : oT Try.prog [0] 120 Try.f4 q4 [(i64 size), (.slice ans ns.length cns), (i64 fro), (i64 set), (i64 more)] M [ttV 3 (.bool true) M3, ttV 12 (.agg ⟨[(i64 ((((nMk size) : Nat) : Int))), (.slice a12 (mkL size ns 2).length c13)]⟩) M18, ttV 14 (pt b27 0) M28, ttS 16 M37, ttL 18 (.agg ⟨[(i64 ((((nMk size) : Nat) : Int))), (.slice a12 (mkL size ns 2).length c13)]⟩), ttV 20 (pt ab45 0) M50, ttL 33 (i64 ((((nMk size) : Nat) : Int))), ttV 35 (i64 (modI fro ((((nMk size) : Nat) : Int)))) M63, ttV 39 (i64 (modI set (32 : Int))) M77, ttV 51 (.slice a89 (reachL (adjM (nMk size) (mkL size ns 2)) (modI set (32 : Int)) (modI fro ((((nMk size) : Nat) : Int)))).length c90) M94, ttV 63 (i64 (modI more (32 : Int))) M108, ttV 67 (.slice a121 (reachL (adjM (nMk size) (mkL size ns 2)) (orI (modI set (32 : Int)) (modI more (32 : Int))) (modI fro ((((nMk size) : Nat) : Int)))).length c122) M126, ttV 75 (.bool true) M141, ttV 85 (.slice a155 1 c156) M160, ttT 87, .blk 95 [12, 14, 15, 16, 17] .normal (fr []) M174] 10 = some (.ret, some (.bool true), M174, [qC 10 [] M (.bool true) M3, qC 11 [(i64 size), (.slice ans ns.length cns), (i64 2)] M3 (.agg ⟨[(i64 ((((nMk size) : Nat) : Int))), (.slice a12 (mkL size ns 2).length c13)]⟩) M18, .eq (aalloc Try.prog 26 M18) (1, .val (pt b27 0), M28), qS 26 b27 0 (.agg ⟨[(i64 ((((nMk size) : Nat) : Int))), (.slice a12 (mkL size ns 2).length c13)]⟩) M28 M37, qL 26 b27 0 M37 (.agg ⟨[(i64 ((((nMk size) : Nat) : Int))), (.slice a12 (mkL size ns 2).length c13)]⟩), qC 12 [(.agg ⟨[(i64 ((((nMk size) : Nat) : Int))), (.slice a12 (mkL size ns 2).length c13)]⟩)] M37 (pt ab45 0) M50, qL 3 b27 0 M50 (i64 ((((nMk size) : Nat) : Int))), qC 15 [(i64 fro), (i64 ((((nMk size) : Nat) : Int)))] M50 (i64 (modI fro ((((nMk size) : Nat) : Int)))) M63, qC 15 [(i64 set), (i64 32)] M63 (i64 (modI set (32 : Int))) M77, qC 16 [(pt ab45 0), (i64 (modI fro ((((nMk size) : Nat) : Int)))), (i64 (modI set (32 : Int)))] M77 (.slice a89 (reachL (adjM (nMk size) (mkL size ns 2)) (modI set (32 : Int)) (modI fro ((((nMk size) : Nat) : Int)))).length c90) M94, qC 15 [(i64 more), (i64 32)] M94 (i64 (modI more (32 : Int))) M108, qC 16 [(pt ab45 0), (i64 (modI fro ((((nMk size) : Nat) : Int)))), (i64 (orI (modI set (32 : Int)) (modI more (32 : Int))))] M108 (.slice a121 (reachL (adjM (nMk size) (mkL size ns 2)) (orI (modI set (32 : Int)) (modI more (32 : Int))) (modI fro ((((nMk size) : Nat) : Int)))).length c122) M126, qC 17 [(.slice a89 (reachL (adjM (nMk size) (mkL size ns 2)) (modI set (32 : Int)) (modI fro ((((nMk size) : Nat) : Int)))).length c90), (i64 (modI fro ((((nMk size) : Nat) : Int))))] M126 (.bool true) M141, qC 16 [(pt ab45 0), (i64 (modI fro ((((nMk size) : Nat) : Int)))), (i64 0)] M141 (.slice a155 1 c156) M160, .ln a155 1 c156, .blk 0 (.loop (q4.loopAt 0)) Try.f4.ntmps [12, 14, 15, 16, 17] [some (pt ab45 0), some (i64 (modI set (32 : Int))), some (.slice a89 (reachL (adjM (nMk size) (mkL size ns 2)) (modI set (32 : Int)) (modI fro ((((nMk size) : Nat) : Int)))).length c90), some (.slice a121 (reachL (adjM (nMk size) (mkL size ns 2)) (orI (modI set (32 : Int)) (modI more (32 : Int))) (modI fro ((((nMk size) : Nat) : Int)))).length c122), some (i64 0)] M160 .normal (fr []) M174]) := by kernel_rfl
theorem w4 (size : Int) (ans : Option Addr) (cns : Nat) (ns : List Int) (fro set more : Int) {M : Mem} (hM : MemOk M) (hns : pInts ns (.slice ans ns.length cns) M) : ∃ v_ M', Ev Try.prog [] 4 [(i64 size), (.slice ans ns.length cns), (i64 fro), (i64 set), (i64 more)] M v_ M' ∧ Ext M M' ∧ MemOk M' ∧ v_ = .bool true := by
  obtain ⟨w1, N2, M3, p4, l5, e6, E7, hM8, F9⟩ := call_fc (x := ()) hM con10 (rfl)
  have nx10 := E7.next
  have ew1 : w1 = (.bool true) := F9
  subst ew1
  have X11 := (Ext.refl M).trans E7
  obtain ⟨w16, N17, M18, p19, l20, e21, E22, hM23, F24⟩ := call_fc (x := (size, ns, 2)) hM8 con11 (⟨_, _, _, rfl, rfl, AP.Ext (R := pInts) hns X11, rfl⟩)
  have nx25 := E22.next
  obtain ⟨L15, ew16, G14⟩ : pNetN ((nMk size), (mkL size ns 2)) w16 (hidx [(0, M3.next)] M18) := hx_of F24
  simp only at ew16 G14
  obtain ⟨a12, c13, eL15⟩ := GRowsAt.form G14
  subst eL15
  subst ew16
  have X26 := X11.trans E22
  obtain ⟨b27, M28, eb29, em30, g31, E32, hM33⟩ := new_t hM23 ⟨[(i64 0), sln], 26, 2, 0, true⟩
  have nb27 : M.next ≤ b27 := by rw [← eb29]; exact X26.next
  have F34 := hx_new (R := pEdges) G14 eb29 E32
  have nx35 := E32.next
  have X36 := X26.trans E32
  obtain ⟨M37, q38, g39, kp40, X41, hM42, nx43⟩ := store_t (o := 0) (v := (.agg ⟨[(i64 ((((nMk size) : Nat) : Int))), (.slice a12 (mkL size ns 2).length c13)]⟩)) (new := [(i64 ((((nMk size) : Nat) : Int))), (.slice a12 (mkL size ns 2).length c13)]) X36 nb27 hM33 dS26 g31 rfl rfl (Nat.zero_le _) (Nat.le_of_ble_eq_true rfl) rfl
  replace g39 : M37.get b27 = some ⟨[(i64 ((((nMk size) : Nat) : Int))), (.slice a12 (mkL size ns 2).length c13)], 26, 2, 0, true⟩ := g39
  have F44 := hx_keep (R := pEdges) F34 (fun id h _ => kp40 id h) (by intro id hh; simp only [hidden_con] at hh; omega)
  obtain ⟨w48, N49, M50, p51, l52, e53, E54, hM55, F56⟩ := call_fc (x := ((nMk size), (mkL size ns 2))) hM42 con12 (⟨⟨_, rfl, _, rfl, hx_out (R := pEdges) F44⟩, mk_chk _ _ _⟩)
  have nx57 := E54.next
  have F58 := hx_ext (R := pEdges) F44 E54
  have g59 := E54.old g39
  have G46 : pAdj 48 (adjM (nMk size) (mkL size ns 2)) w48 (hidx [(0, M37.next)] M50) := hx_of F56
  obtain ⟨ab45, _, _, _, _, ew48, _⟩ := id G46
  subst ew48
  have X60 := X41.trans E54
  obtain ⟨w61, N62, M63, p64, l65, e66, E67, hM68, F69⟩ := call_fc (x := (fro, (((nMk size) : Nat) : Int))) hM55 con15 (⟨⟨_, _, rfl, rfl, rfl⟩, (by have := nMk_range size; simp; omega)⟩)
  have nx70 := E67.next
  have F71 := hx_ext (R := pEdges) F58 E67
  have F72 := hx_ext (R := (pAdj 48)) G46 E67
  have g73 := E67.old g59
  have ew61 : w61 = (i64 (modI fro ((((nMk size) : Nat) : Int)))) := F69
  subst ew61
  have X74 := X60.trans E67
  obtain ⟨w75, N76, M77, p78, l79, e80, E81, hM82, F83⟩ := call_fc (x := (set, (32 : Int))) hM68 con15 (⟨⟨_, _, rfl, rfl, rfl⟩, rfl⟩)
  have nx84 := E81.next
  have F85 := hx_ext (R := pEdges) F71 E81
  have F86 := hx_ext (R := (pAdj 48)) F72 E81
  have g87 := E81.old g73
  have ew75 : w75 = (i64 (modI set (32 : Int))) := F83
  subst ew75
  have X88 := X74.trans E81
  obtain ⟨w92, N93, M94, p95, l96, e97, E98, hM99, F100⟩ := call_fc (x := ((adjM (nMk size) (mkL size ns 2)), (modI fro ((((nMk size) : Nat) : Int))), (modI set (32 : Int)))) hM82 con16 (⟨⟨_, _, _, rfl, hx_out (R := pAdj 48) F86, rfl, rfl⟩, (okR_adjM (mk_chk size ns 2)), (by rw [out_len]; have := nMk_range size; omega)⟩)
  have nx101 := E98.next
  have F102 := hx_ext (R := pEdges) F85 E98
  have F103 := hx_ext (R := (pAdj 48)) F86 E98
  have g104 := E98.old g87
  have G91 : pInts (reachL (adjM (nMk size) (mkL size ns 2)) (modI set (32 : Int)) (modI fro ((((nMk size) : Nat) : Int)))) w92 (hidx [(0, M77.next)] M94) := hx_of F100
  obtain ⟨a89, c90, ew92⟩ := GRowsAt.form G91
  subst ew92
  have X105 := X88.trans E98
  obtain ⟨w106, N107, M108, p109, l110, e111, E112, hM113, F114⟩ := call_fc (x := (more, (32 : Int))) hM99 con15 (⟨⟨_, _, rfl, rfl, rfl⟩, rfl⟩)
  have nx115 := E112.next
  have F116 := hx_ext (R := pEdges) F102 E112
  have F117 := hx_ext (R := (pAdj 48)) F103 E112
  have F118 := hx_ext (R := pInts) G91 E112
  have g119 := E112.old g104
  have ew106 : w106 = (i64 (modI more (32 : Int))) := F114
  subst ew106
  have X120 := X105.trans E112
  obtain ⟨w124, N125, M126, p127, l128, e129, E130, hM131, F132⟩ := call_fc (x := ((adjM (nMk size) (mkL size ns 2)), (modI fro ((((nMk size) : Nat) : Int))), (orI (modI set (32 : Int)) (modI more (32 : Int))))) hM113 con16 (⟨⟨_, _, _, rfl, hx_out (R := pAdj 48) F117, rfl, rfl⟩, (okR_adjM (mk_chk size ns 2)), (by rw [out_len]; have := nMk_range size; omega)⟩)
  have nx133 := E130.next
  have F134 := hx_ext (R := pEdges) F116 E130
  have F135 := hx_ext (R := (pAdj 48)) F117 E130
  have F136 := hx_ext (R := pInts) F118 E130
  have g137 := E130.old g119
  have G123 : pInts (reachL (adjM (nMk size) (mkL size ns 2)) (orI (modI set (32 : Int)) (modI more (32 : Int))) (modI fro ((((nMk size) : Nat) : Int)))) w124 (hidx [(0, M108.next)] M126) := hx_of F132
  obtain ⟨a121, c122, ew124⟩ := GRowsAt.form G123
  subst ew124
  have X138 := X120.trans E130
  obtain ⟨w139, N140, M141, p142, l143, e144, E145, hM146, F147⟩ := call_fc (x := ((reachL (adjM (nMk size) (mkL size ns 2)) (modI set (32 : Int)) (modI fro ((((nMk size) : Nat) : Int)))), (modI fro ((((nMk size) : Nat) : Int))))) hM131 con17 (⟨_, _, rfl, hx_out (R := pInts) F136, rfl⟩)
  have nx148 := E145.next
  have F149 := hx_ext (R := pEdges) F134 E145
  have F150 := hx_ext (R := (pAdj 48)) F135 E145
  have F151 := hx_ext (R := pInts) F136 E145
  have F152 := hx_ext (R := pInts) G123 E145
  have g153 := E145.old g137
  have ew139 : w139 = .bool true := (show w139 = .bool (decide ((modI fro ((((nMk size) : Nat) : Int))) ∈ (reachL (adjM (nMk size) (mkL size ns 2)) (modI set (32 : Int)) (modI fro ((((nMk size) : Nat) : Int)))))) from F147).trans (congrArg Value.bool (decide_eq_true (reachL_self (by rw [out_len]; have := nMk_range size; exact modI_range (by omega)))))
  subst ew139
  have X154 := X138.trans E145
  obtain ⟨w158, N159, M160, p161, l162, e163, E164, hM165, F166⟩ := call_fc (x := ((adjM (nMk size) (mkL size ns 2)), (modI fro ((((nMk size) : Nat) : Int))), (0 : Int))) hM146 con16 (⟨⟨_, _, _, rfl, hx_out (R := pAdj 48) F150, rfl, rfl⟩, (okR_adjM (mk_chk size ns 2)), (by rw [out_len]; have := nMk_range size; omega)⟩)
  have nx167 := E164.next
  have F168 := hx_ext (R := pEdges) F149 E164
  have F169 := hx_ext (R := (pAdj 48)) F150 E164
  have F170 := hx_ext (R := pInts) F151 E164
  have F171 := hx_ext (R := pInts) F152 E164
  have g172 := E164.old g153
  have G157 : pInts [(modI fro ((((nMk size) : Nat) : Int)))] w158 (hidx [(0, M141.next)] M160) := by rw [← reachL_zero ((okR_adjM (mk_chk size ns 2)).1) (by rw [out_len]; have := nMk_range size; exact modI_range (by omega))]; exact hx_of F166
  obtain ⟨a155, c156, ew158⟩ := GRowsAt.form G157
  subst ew158
  have X173 := X154.trans E164
  obtain ⟨M174, hL175, E176, hM177⟩ := loop4o hM165 (hx_out (R := pInts) F170) (hx_out (R := pInts) F171) (hx_out (R := pAdj 48) F169) (okR_adjM (mk_chk size ns 2)) (by rw [out_len]; have := nMk_range size; omega) (fun x hx => reachL_mono ((okR_adjM (mk_chk size ns 2)).1) (modI_range (by decide)) (modI_range (by decide)) hx) (fun x hx w hw => reachL_trans hx hw) (reachL_pw _ _ _) (Nat.le_trans (reachL_len _ _ _) (by rw [out_len]; have := nMk_range size; omega))
  have nx178 := E176.next
  have F179 := hx_ext (R := pEdges) F168 E176
  have F180 := hx_ext (R := (pAdj 48)) F169 E176
  have F181 := hx_ext (R := pInts) F170 E176
  have F182 := hx_ext (R := pInts) F171 E176
  have F183 := hx_ext (R := pInts) G157 E176
  have g184 := E176.old g172
  have X185 := X173.trans E176
  have hraw := w4_raw size ans cns ns fro set more M  M3 a12 c13 M18 b27 M28 M37 ab45 M50 M63 M77 a89 c90 M94 M108 a121 c122 M126 M141 a155 c156 M160 M174
  exact ⟨(.bool true), M174, Ev.told_tmp noNumP mixedP Try.func4 q4_ok (by kernel_rfl) rK4 (fun B => specsB_ok (hS4_10_11_12_15_16_17 B) (k := [(0, bone (.loop (q4.loopAt 0)) Try.f4.ntmps [12, 14, 15, 16, 17] [some (pt ab45 0), some (i64 (modI set (32 : Int))), some (.slice a89 (reachL (adjM (nMk size) (mkL size ns 2)) (modI set (32 : Int)) (modI fro ((((nMk size) : Nat) : Int)))).length c90), some (.slice a121 (reachL (adjM (nMk size) (mkL size ns 2)) (orI (modI set (32 : Int)) (modI more (32 : Int))) (modI fro ((((nMk size) : Nat) : Int)))).length c122), some (i64 0)] M160 .normal (fr []) M174)]) (fun p hp => by simp only [List.mem_cons, List.not_mem_nil, or_false] at hp; rcases hp with rfl <;> first | exact BlkOk.loop noNumP mixedP hL175)) (fun _ h => blksF_one h) hraw (hk (q_call rfl p4 l5 e6) (hk (q_call rfl p19 l20 e21) (hk (q_eq (by rw [← eb29, ← em30]; kernel_rfl) Nat.one_ne_zero) (hk (q_st q38) (hk (lA ⟨dA26, dS26⟩ g39 rfl) (hk (q_call rfl p51 l52 e53) (hk (lC dC3 g59 rfl) (hk (q_call rfl p64 l65 e66) (hk (q_call rfl p78 l79 e80) (hk (q_call rfl p95 l96 e97) (hk (q_call rfl p109 l110 e111) (hk (q_call rfl p127 l128 e129) (hk (q_call rfl p142 l143 e144) (hk (q_call rfl p161 l162 e163) (hk (lN (GRowsAt.ln G157)) (hk (q_blk rfl) hn)))))))))))))))), X185, hM177, rfl⟩
end Go.Proofs.Ytipnhelkganmdaa
