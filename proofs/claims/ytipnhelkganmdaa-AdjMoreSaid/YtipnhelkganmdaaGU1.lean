/-
  Package adj: each of its laws for every argument; no conditions. The last text states which.
-/
import Derived.Test.YtipnhelkganmdaaGUK
import Derived.Test.YtipnhelkganmdaaGAmBk
import Derived.Test.YtipnhelkganmdaaGAmMk
import Derived.Test.YtipnhelkganmdaaGAmTn
import Derived.Test.YtipnhelkganmdaaGUQ
set_option linter.unusedVariables false
set_option linter.unusedSimpArgs false
open Go Go.Am Go.Proofs
namespace Go.Proofs.Ytipnhelkganmdaa
set_option maxRecDepth 100000
set_option linter.unusedVariables false
set_option linter.unusedSimpArgs false
theorem laidOut : laidOutB Try.prog = true := by kernel_rfl
theorem own' : ownKnob Try.prog.godebug = none := by kernel_rfl
theorem out_eq {n : Nat} {l : List E4} (h : chkN ((n : Nat) : Int) l = true) {v : Int} (hv : 0 ≤ v ∧ v < (n : Int)) : rowV (adjM n l).out v = refRow .fr l v l.length := refRow_rowV hv (tell_range h (by simp))
theorem in_eq {n : Nat} {l : List E4} (h : chkN ((n : Nat) : Int) l = true) {v : Int} (hv : 0 ≤ v ∧ v < (n : Int)) : rowV (adjM n l).inn v = refRow .to l v l.length := refRow_rowV hv (tell_range h (by simp))
end Go.Proofs.Ytipnhelkganmdaa

set_option linter.unusedVariables false
set_option linter.unusedSimpArgs false
open Go Go.Am Go.Proofs
namespace Go.Proofs.Ytipnhelkganmdaa
set_option maxRecDepth 100000
set_option linter.unusedVariables false
set_option linter.unusedSimpArgs false
end Go.Proofs.Ytipnhelkganmdaa

set_option linter.unusedVariables false
set_option linter.unusedSimpArgs false
open Go Go.Am Go.Proofs
namespace Go.Proofs.Ytipnhelkganmdaa
set_option maxRecDepth 100000
set_option linter.unusedVariables false
set_option linter.unusedSimpArgs false
theorem dC4 : (Try.prog.underlying 4).map isAggD = some false := by kernel_rfl
theorem dS4 : (Try.prog.info? 4).map (·.size) = some 1 := by kernel_rfl
abbrev C32 (k : Nat) := ∀ {x : AdjM × Int × Int × Nat × List Bool} {lv : List Value} {M : Mem}, MemOk M → asSp 48 x lv M → x.2.2.2.2.count false < k → ∃ v M', TC Try.prog [] 32 (QSp 48) lv M v M'
theorem r32n_raw (ab b c eb eo k ce i sb so ks cs_ tb to kt ct kk : Nat) (ms x z y : Int) (vo vi : Value) (m : List Bool) (ad : AdjM) (M : Mem)  : oR Try.prog [] 60 Try.f32 (q32.loopAt 0) [(0, (pt ab 0)), (2, (i64 ms)), (3, (sli b 0 m.length c)), (33, (sli eb eo k ce)), (34, (i64 (((k : Nat) : Int)))), (35, (i64 (((i : Nat) : Int))))] M [ttT 2, ttT 4, ttL 6 (i64 x), ttL 16 (sli sb so ks cs_), ttT 20, ttL 22 (i64 z), ttF 29] [0, 2, 3, 33, 34, 35] = some (.normal, [some (pt ab 0), some (i64 ms), some (sli b 0 m.length c), some (sli eb eo k ce), some (i64 (((k : Nat) : Int))), some (i64 (IntKind.wrap .i64 ((((i : Nat) : Int)) + (1 : Int))))], M, [qT (decide ((((i : Nat) : Int)) < (((k : Nat) : Int)))), .q (.inb (((i : Nat) : Int)) k) (ansB true), qL 3 eb (eo + (((i : Nat) : Int) : Int).toNat * 1) M (i64 x), qL 22 ab 3 M (sli sb so ks cs_), .q (.inb x ks) (ansB true), qL 3 sb (so + (x : Int).toNat * 1) M (i64 z), qF (!((andI z ms) == (0 : Int)))]) := by kernel_rfl
theorem r32n (ab b c eb eo k ce i sb so ks cs_ tb to kt ct kk : Nat) (ms x z y : Int) (vo vi : Value) (m : List Bool) (ad : AdjM) {M : Mem} {M0 : Mem} (X0 : Ext M0 M) (gab : M.get ab = some ⟨[vo, vi, sli tb to kt ct, sli sb so ks cs_], 48, 4, 0, true⟩) (gb : M.get b = some ⟨m.map Value.bool, 4, 1, 0, true⟩) (cc0 : (decide ((((i : Nat) : Int)) < (((k : Nat) : Int)))) = true) (cc1 : ((andI z ms) == (0 : Int)) = true) (hld0 : aload Try.prog 3 ⟨eb, eo + (((i : Nat) : Int) : Int).toNat * 1, none⟩ M0 = some (i64 x)) (hi1 : 0 ≤ (x : Int) ∧ (x : Int) < ks) (hld2 : aload Try.prog 3 ⟨sb, so + (x : Int).toNat * 1, none⟩ M0 = some (i64 z)) : ∃ T1, Rd Try.prog [] (q32.loopAt 0) Try.f32.ntmps (fr [(0, (pt ab 0)), (2, (i64 ms)), (3, (sli b 0 m.length c)), (33, (sli eb eo k ce)), (34, (i64 (((k : Nat) : Int)))), (35, (i64 (((i : Nat) : Int))))]) M .normal T1 M ∧ [0, 2, 3, 33, 34, 35].map T1.get = [some (pt ab 0), some (i64 ms), some (sli b 0 m.length c), some (sli eb eo k ce), some (i64 (((k : Nat) : Int))), some (i64 (IntKind.wrap .i64 ((((i : Nat) : Int)) + (1 : Int))))] := by
  have hraw := r32n_raw ab b c eb eo k ce i sb so ks cs_ tb to kt ct kk ms x z y vo vi m ad M  
  obtain ⟨T1, h1, h2⟩ := Rd.told noNumP mixedP (specs_none Try.prog) (fun _ _ => rfl) hraw (hk (bT cc0) (hk (q_inb (by omega) (by simp at cc0; omega)) (hk (q_ld (aload_ext X0 hld0)) (hk (lC dC22 gab rfl) (hk (q_inb hi1.1 hi1.2) (hk (q_ld (aload_ext X0 hld2)) (hk (bF (by rw [cc1]; rfl)) hn)))))))
  exact ⟨T1, h1, h2⟩
theorem hS32_32 (B : Bd) : ∀ p ∈ ([(32, pick (TC Try.prog [] 32 (QSp 48)))] : List (FuncId × (List Value → Mem → Option (Value × Mem)))), SpecOk Try.prog [] B p.1 p.2 := (fun p hp => by simp only [List.mem_cons, List.not_mem_nil, or_false] at hp; rcases hp with rfl <;> first | exact Con.ok _ | exact TC.ok _)
theorem r32c_raw (ab b c eb eo k ce i sb so ks cs_ tb to kt ct kk : Nat) (ms x z y : Int) (vo vi : Value) (m : List Bool) (ad : AdjM) (M : Mem) (t1 : Bool) (w2 : Value) (m3 : List Bool) (M4 : Mem) : oR Try.prog [] 60 Try.f32 (q32.loopAt 0) [(0, (pt ab 0)), (2, (i64 ms)), (3, (sli b 0 m.length c)), (33, (sli eb eo k ce)), (34, (i64 (((k : Nat) : Int)))), (35, (i64 (((i : Nat) : Int))))] M [ttT 2, ttT 4, ttL 6 (i64 x), ttL 16 (sli sb so ks cs_), ttT 20, ttL 22 (i64 z), ttT 29, ttL 39 (sli tb to kt ct), ttT 43, ttL 45 (i64 y), .at 51 ((bif t1 then 1 else 2), .val w2, M4)] [0, 2, 3, 33, 34, 35] = some (.normal, [some (pt ab 0), some (i64 ms), some (sli b 0 m.length c), some (sli eb eo k ce), some (i64 (((k : Nat) : Int))), some (i64 (IntKind.wrap .i64 ((((i : Nat) : Int)) + (1 : Int))))], M4, [qT (decide ((((i : Nat) : Int)) < (((k : Nat) : Int)))), .q (.inb (((i : Nat) : Int)) k) (ansB true), qL 3 eb (eo + (((i : Nat) : Int) : Int).toNat * 1) M (i64 x), qL 22 ab 3 M (sli sb so ks cs_), .q (.inb x ks) (ansB true), qL 3 sb (so + (x : Int).toNat * 1) M (i64 z), qT (!((andI z ms) == (0 : Int))), qL 22 ab 2 M (sli tb to kt ct), .q (.inb x kt) (ansB true), qL 3 tb (to + (x : Int).toNat * 1) M (i64 y), .cl 32 [(pt ab 0), (i64 y), (i64 ms), (sli b 0 m.length c)] M ((bif t1 then 1 else 2), .val w2, M4)]) := by cases t1 <;> kernel_rfl
theorem r32c (ab b c eb eo k ce i sb so ks cs_ tb to kt ct kk : Nat) (ms x z y : Int) (vo vi : Value) (m : List Bool) (ad : AdjM) {M M0 : Mem} (hM : MemOk M) (X0 : Ext M0 M) (gab : M.get ab = some ⟨[vo, vi, sli tb to kt ct, sli sb so ks cs_], 48, 4, 0, true⟩) (gb : M.get b = some ⟨m.map Value.bool, 4, 1, 0, true⟩) (nb : M0.next ≤ b) (dabb : ab ≠ b) (hadj : pAdj 48 ad (pt ab 0) M0) (hok : okR ad) (hml : m.length = ad.out.length) (hC : C32 kk) (hcnt : m.count false < kk) (cc0 : (decide ((((i : Nat) : Int)) < (((k : Nat) : Int)))) = true) (cc1 : ((andI z ms) == (0 : Int)) = false) (hld0 : aload Try.prog 3 ⟨eb, eo + (((i : Nat) : Int) : Int).toNat * 1, none⟩ M0 = some (i64 x)) (hi1 : 0 ≤ (x : Int) ∧ (x : Int) < ks) (hld2 : aload Try.prog 3 ⟨sb, so + (x : Int).toNat * 1, none⟩ M0 = some (i64 z)) (hi3 : 0 ≤ (x : Int) ∧ (x : Int) < kt) (hld4 : aload Try.prog 3 ⟨tb, to + (x : Int).toNat * 1, none⟩ M0 = some (i64 y)) : ∃ T1 M' m3, Rd Try.prog [] (q32.loopAt 0) Try.f32.ntmps (fr [(0, (pt ab 0)), (2, (i64 ms)), (3, (sli b 0 m.length c)), (33, (sli eb eo k ce)), (34, (i64 (((k : Nat) : Int)))), (35, (i64 (((i : Nat) : Int))))]) M .normal T1 M' ∧ [0, 2, 3, 33, 34, 35].map T1.get = [some (pt ab 0), some (i64 ms), some (sli b 0 m.length c), some (sli eb eo k ce), some (i64 (((k : Nat) : Int))), some (i64 (IntKind.wrap .i64 ((((i : Nat) : Int)) + (1 : Int))))] ∧ Ext M0 M' ∧ MemOk M' ∧ M'.get b = some ⟨(m3.map Value.bool), 4, 1, 0, true⟩ ∧ (∀ id k, M.get id = some k → id ≠ b → M'.get id = some k) ∧ Spr ad ms y m m3 := by
  obtain ⟨t1, w2, m3, M4, hc5, X6, hM7, nx8, g9, kp10, sp11⟩ := call_sp (P := Try.prog) (f := 32) (x := (ad, y, ms, b, m)) (l := [(pt ab 0), (i64 y), (i64 ms), (sli b 0 m.length c)]) hM X0 nb (⟨_, _, rfl, AP.ext (R := pAdj 48) (Ext.below X0 nb (Nat.le_of_lt (Mem.lt_of_get gb))) hadj, gb, hok, hml⟩) (hC (MemOk.log hM) (asSp.log (x := (ad, y, ms, b, m)) (⟨_, _, rfl, AP.ext (R := pAdj 48) (Ext.below X0 nb (Nat.le_of_lt (Mem.lt_of_get gb))) hadj, gb, hok, hml⟩)) hcnt)
  have g12 := kp10 _ _ gab dabb
  have hraw := r32c_raw ab b c eb eo k ce i sb so ks cs_ tb to kt ct kk ms x z y vo vi m ad M  t1 w2 m3 M4
  have hkp : ∀ id k, M.get id = some k → id ≠ b → M4.get id = some k := fun id k g h_b => by
    have g0 := Mem.lt_of_get g
    have g := kp10 id k g h_b
    exact g
  obtain ⟨T1, h1, h2⟩ := Rd.told noNumP mixedP (fun B => specsB_ok (k := []) (hS32_32 B) (fun p hp => by cases hp)) (fun _ _ => rfl) hraw (hk (bT cc0) (hk (q_inb (by omega) (by simp at cc0; omega)) (hk (q_ld (aload_ext X0 hld0)) (hk (lC dC22 gab rfl) (hk (q_inb hi1.1 hi1.2) (hk (q_ld (aload_ext X0 hld2)) (hk (bT (by rw [cc1]; rfl)) (hk (lC dC22 gab rfl) (hk (q_inb hi3.1 hi3.2) (hk (q_ld (aload_ext X0 hld4)) (hk (hc5 _ rfl) hn)))))))))))
  exact ⟨T1, M4, m3, h1, h2, X6, hM7, g9, hkp, sp11⟩
theorem r32x_raw (ab b c k ce i tb to kt ct sb so ks cs_ : Nat) (ae : Option Addr) (ms : Int) (vo vi : Value) (m : List Bool) (M : Mem)  : oR Try.prog [] 60 Try.f32 (q32.loopAt 0) [(0, (pt ab 0)), (2, (i64 ms)), (3, (sli b 0 m.length c)), (33, (.slice ae k ce)), (34, (i64 (((k : Nat) : Int)))), (35, (i64 (((i : Nat) : Int))))] M [ttF 2] [] = some ((.exit 0), [], M, [qF (decide ((((i : Nat) : Int)) < (((k : Nat) : Int))))]) := by kernel_rfl
theorem r32x (ab b c k ce i tb to kt ct sb so ks cs_ : Nat) (ae : Option Addr) (ms : Int) (vo vi : Value) (m : List Bool) {M : Mem} (cc0 : (decide ((((i : Nat) : Int)) < (((k : Nat) : Int)))) = false) : ∃ T1, Rd Try.prog [] (q32.loopAt 0) Try.f32.ntmps (fr [(0, (pt ab 0)), (2, (i64 ms)), (3, (sli b 0 m.length c)), (33, (.slice ae k ce)), (34, (i64 (((k : Nat) : Int)))), (35, (i64 (((i : Nat) : Int))))]) M (.exit 0) T1 M ∧ [].map T1.get = [] := by
  have hraw := r32x_raw ab b c k ce i tb to kt ct sb so ks cs_ ae ms vo vi m M  
  obtain ⟨T1, h1, h2⟩ := Rd.told noNumP mixedP (specs_none Try.prog) (fun _ _ => rfl) hraw (hk (bF cc0) hn)
  exact ⟨T1, h1, h2⟩
theorem loop32 {ab b c ce cs_ ct kk : Nat} {ae as_ at_ : Option Addr} {v ms : Int} {vo vi : Value} {m0 : List Bool} {ad : AdjM} {M0 M : Mem} (hM : MemOk M) (X : Ext M0 M) (gab : M.get ab = some ⟨[vo, vi, .slice at_ ad.to.length ct, .slice as_ ad.set.length cs_], 48, 4, 0, true⟩) (gb : M.get b = some ⟨m0.map Value.bool, 4, 1, 0, true⟩)
    (nb : M0.next ≤ b) (dabb : ab ≠ b) (hadj : pAdj 48 ad (pt ab 0) M0) (hok : okR ad) (hml : m0.length = ad.out.length) (hC : C32 kk) (hcnt : m0.count false < kk) (hrow : pInts (rowV ad.out v) (.slice ae (rowV ad.out v).length ce) M0) (hset : pInts ad.set (.slice as_ ad.set.length cs_) M0) (hto : pInts ad.to (.slice at_ ad.to.length ct) M0) :
    ∃ m' M', LoopR Try.prog [] (q32.loopAt 0) Try.f32.ntmps (fr [(0, pt ab 0), (2, i64 ms), (3, sli b 0 m0.length c), (33, .slice ae (rowV ad.out v).length ce), (34, i64 (((rowV ad.out v).length : Nat) : Int)), (35, i64 ((0 : Nat) : Int))]) M (.exit 0) (fr []) M' ∧ Ext M0 M' ∧ MemOk M' ∧ M'.get b = some ⟨m'.map Value.bool, 4, 1, 0, true⟩ ∧ (∀ id k, M.get id = some k → id ≠ b → M'.get id = some k) ∧ SprI ad ms v (rowV ad.out v) m0 (rowV ad.out v).length m' := by
  have hrl : (rowV ad.out v).length ≤ 400 := rowV_ok (p := fun r => r.length ≤ 400) (fun r hr => (hok.1.1 r hr).1) (by decide) v
  have hrb : ∀ j ∈ rowV ad.out v, 0 ≤ j ∧ j < (ad.set.length : Int) := rowV_ok (p := fun r => ∀ j ∈ r, 0 ≤ j ∧ j < (ad.set.length : Int)) (fun r hr => (hok.1.1 r hr).2) (fun j hj => by cases hj) v
  obtain ⟨m', M', h1, h2, h3, h4, h5, h6⟩ := LoopR.for (P := Try.prog) (GL := []) (b := q32.loopAt 0) (nt := Try.f32.ntmps) (id := 0) (σ := List Bool) (n := (rowV ad.out v).length)
    (Inv := fun i m M1 => Ext M0 M1 ∧ MemOk M1 ∧ M1.get b = some ⟨m.map Value.bool, 4, 1, 0, true⟩ ∧ (∀ id k, M.get id = some k → id ≠ b → M1.get id = some k) ∧ SprI ad ms v (rowV ad.out v) m0 i m)
    (F := fun i m => [(0, pt ab 0), (2, i64 ms), (3, sli b 0 m.length c), (33, .slice ae (rowV ad.out v).length ce), (34, i64 (((rowV ad.out v).length : Nat) : Int)), (35, i64 ((i : Nat) : Int))])
    (O := fun _ => [])
    (by
      rintro i m M1 hi ⟨X1, hM1, g1, hkp, hI⟩
      obtain ⟨eb, eo, rfl, _⟩ := form_pos hrow (by omega)
      have ht : (rowV ad.out v)[i]? = some (rowV ad.out v)[i] := List.getElem?_eq_getElem hi
      have hb := hrb _ (List.getElem_mem hi)
      have hb2 : (rowV ad.out v)[i] < (ad.to.length : Int) := by rw [hok.2]; exact hb.2
      obtain ⟨sb, so, rfl, _⟩ := form_pos hset (by omega)
      obtain ⟨tb, to, rfl, _⟩ := form_pos hto (by omega)
      have hz : ad.set[((rowV ad.out v)[i]).toNat]? = some ad.set[((rowV ad.out v)[i]).toNat] := List.getElem?_eq_getElem (by omega)
      have hy : ad.to[((rowV ad.out v)[i]).toNat]? = some ad.to[((rowV ad.out v)[i]).toNat] := List.getElem?_eq_getElem (by omega)
      have ga := hkp _ _ gab dabb
      have l1 := ld_one (P := Try.prog) (ty := 3) hrow ht rfl dC3
      have l2 := ld_one (P := Try.prog) (ty := 3) hset hz rfl dC3
      have l3 := ld_one (P := Try.prog) (ty := 3) hto hy rfl dC3
      cases hq : (andI (ad.set[((rowV ad.out v)[i]).toNat]) ms == (0 : Int)) with
      | true =>
        obtain ⟨T1, h1, h2⟩ := r32n ab b c eb eo (rowV ad.out v).length ce i sb so ad.set.length cs_ tb to ad.to.length ct kk ms (rowV ad.out v)[i] (ad.set[((rowV ad.out v)[i]).toNat]) (ad.to[((rowV ad.out v)[i]).toNat]) vo vi m ad (M := M1) X1 ga g1 (decide_eq_true (by omega)) hq l1 hb l2
        rw [wrap_succ (by omega)] at h2
        refine ⟨m, T1, M1, h1, h2, X1, hM1, g1, hkp, hI.skip ht ?_⟩
        rw [hz]; exact eq_of_beq hq
      | false =>
        obtain ⟨T1, M2, m2, h1, h2, h3, h4, h5, h6, h7⟩ := r32c ab b c eb eo (rowV ad.out v).length ce i sb so ad.set.length cs_ tb to ad.to.length ct kk ms (rowV ad.out v)[i] (ad.set[((rowV ad.out v)[i]).toNat]) (ad.to[((rowV ad.out v)[i]).toNat]) vo vi m ad hM1 X1 ga g1 nb dabb hadj hok (hI.len.trans hml) hC (Nat.lt_of_le_of_lt (cnt_up hI.len hI.up) hcnt) (decide_eq_true (by omega)) hq l1 hb l2 ⟨hb.1, hb2⟩ l3
        rw [wrap_succ (by omega)] at h2
        refine ⟨m2, T1, M2, h1, by rw [h7.len]; exact h2, h3, h4, h5, fun id k hg hid => h6 id k (hkp id k hg hid) hid, hI.call ht ?_ ?_⟩
        · rw [hz]; exact fun e => by rw [Option.getD_some] at e; rw [e] at hq; cases hq
        · rw [hy]; exact h7)
    (by
      rintro m M1 ⟨X1, hM1, g1, hkp, hI⟩
      exact r32x ab b c (rowV ad.out v).length ce (rowV ad.out v).length 0 0 0 0 0 0 0 0 ae ms (.bool true) (.bool true) m (M := M1) (decide_eq_false (by omega)))
    (rowV ad.out v).length 0 (by omega) (s := m0) (M := M) ⟨X, hM, gb, fun _ _ hg _ => hg, .zero⟩
  exact ⟨m', M', h1, h2, h3, h4, h5, h6⟩
theorem rK32 : Try.f32.results = #[] := by kernel_rfl
theorem w32_0_raw (ab b c Eo co ct cs_ ce kk : Nat) (at_ as_ ae : Option Addr) (v ms : Int) (vi : Value) (m : List Bool) (ad : AdjM) (M : Mem)  : oU Try.prog [] 60 Try.f32 q32 [(pt ab 0), (i64 v), (i64 ms), (sli b 0 m.length c)] M [ttT 6, ttT 8, ttT 10, ttT 12, ttT 15] = some (.ret, M, [qT (decide (v < (0 : Int))), qT (decide (v < (0 : Int))), qT (decide (v < (0 : Int))), qT (decide (v < (0 : Int))), qT (decide (v < (0 : Int)))]) := by kernel_rfl
theorem w32_0 (ab b c Eo co ct cs_ ce kk : Nat) (at_ as_ ae : Option Addr) (v ms : Int) (vi : Value) (m : List Bool) (ad : AdjM) {M M0 : Mem} (hM : MemOk M) (X0 : Ext M0 M) (gab : M.get ab = some ⟨[sli Eo 0 ad.out.length co, vi, .slice at_ ad.to.length ct, .slice as_ ad.set.length cs_], 48, 4, 0, true⟩) (gb : M.get b = some ⟨m.map Value.bool, 4, 1, 0, true⟩) (cc0 : (decide (v < (0 : Int))) = true) : ∃ M', Ev Try.prog [] 32 [(pt ab 0), (i64 v), (i64 ms), (sli b 0 m.length c)] M (.tuple #[]) M' ∧ Ext M0 M' ∧ MemOk M' ∧ M'.get b = some ⟨(m.map Value.bool), 4, 1, 0, true⟩ ∧ (∀ id k, M.get id = some k → id ≠ b → M'.get id = some k) := by
  have hraw := w32_0_raw ab b c Eo co ct cs_ ce kk at_ as_ ae v ms vi m ad M  
  have hkp : ∀ id k, M.get id = some k → id ≠ b → M.get id = some k := fun id k g h_b => by
    have g0 := Mem.lt_of_get g
    exact g
  exact ⟨M, Ev.told_none noNumP mixedP Try.func32 q32_ok (by kernel_rfl) rK32 (specs_none Try.prog) (fun _ _ => rfl) hraw (.inl rfl) (hk (bT cc0) (hk (bT cc0) (hk (bT cc0) (hk (bT cc0) (hk (bT cc0) hn))))), X0, hM, gb, hkp⟩
theorem w32_1_raw (ab b c Eo co ct cs_ ce kk : Nat) (at_ as_ ae : Option Addr) (v ms : Int) (vi : Value) (m : List Bool) (ad : AdjM) (M : Mem)  : oU Try.prog [] 60 Try.f32 q32 [(pt ab 0), (i64 v), (i64 ms), (sli b 0 m.length c)] M [ttF 6, ttF 8, ttF 10, ttF 12, ttF 15, ttT 18, ttT 20, ttT 22, ttT 24, ttT 27] = some (.ret, M, [qF (decide (v < (0 : Int))), qF (decide (v < (0 : Int))), qF (decide (v < (0 : Int))), qF (decide (v < (0 : Int))), qF (decide (v < (0 : Int))), qT (decide (v ≥ (((m.length : Nat) : Int)))), qT (decide (v ≥ (((m.length : Nat) : Int)))), qT (decide (v ≥ (((m.length : Nat) : Int)))), qT (decide (v ≥ (((m.length : Nat) : Int)))), qT (decide (v ≥ (((m.length : Nat) : Int))))]) := by kernel_rfl
theorem w32_1 (ab b c Eo co ct cs_ ce kk : Nat) (at_ as_ ae : Option Addr) (v ms : Int) (vi : Value) (m : List Bool) (ad : AdjM) {M M0 : Mem} (hM : MemOk M) (X0 : Ext M0 M) (gab : M.get ab = some ⟨[sli Eo 0 ad.out.length co, vi, .slice at_ ad.to.length ct, .slice as_ ad.set.length cs_], 48, 4, 0, true⟩) (gb : M.get b = some ⟨m.map Value.bool, 4, 1, 0, true⟩) (cc0 : (decide (v < (0 : Int))) = false) (cc1 : (decide (v ≥ (((m.length : Nat) : Int)))) = true) : ∃ M', Ev Try.prog [] 32 [(pt ab 0), (i64 v), (i64 ms), (sli b 0 m.length c)] M (.tuple #[]) M' ∧ Ext M0 M' ∧ MemOk M' ∧ M'.get b = some ⟨(m.map Value.bool), 4, 1, 0, true⟩ ∧ (∀ id k, M.get id = some k → id ≠ b → M'.get id = some k) := by
  have hraw := w32_1_raw ab b c Eo co ct cs_ ce kk at_ as_ ae v ms vi m ad M  
  have hkp : ∀ id k, M.get id = some k → id ≠ b → M.get id = some k := fun id k g h_b => by
    have g0 := Mem.lt_of_get g
    exact g
  exact ⟨M, Ev.told_none noNumP mixedP Try.func32 q32_ok (by kernel_rfl) rK32 (specs_none Try.prog) (fun _ _ => rfl) hraw (.inl rfl) (hk (bF cc0) (hk (bF cc0) (hk (bF cc0) (hk (bF cc0) (hk (bF cc0) (hk (bT cc1) (hk (bT cc1) (hk (bT cc1) (hk (bT cc1) (hk (bT cc1) hn)))))))))), X0, hM, gb, hkp⟩
theorem w32_2_raw (ab b c Eo co ct cs_ ce kk : Nat) (at_ as_ ae : Option Addr) (v ms : Int) (vi : Value) (m : List Bool) (ad : AdjM) (M : Mem) (z0 : Bool)  : oU Try.prog [] 60 Try.f32 q32 [(pt ab 0), (i64 v), (i64 ms), (sli b 0 m.length c)] M [ttF 6, ttF 8, ttF 10, ttF 12, ttF 15, ttF 18, ttF 20, ttF 22, ttT 23, ttF 24, ttL 25 (.bool z0), ttF 27, ttT 28] = some (.ret, M, [qF (decide (v < (0 : Int))), qF (decide (v < (0 : Int))), qF (decide (v < (0 : Int))), qF (decide (v < (0 : Int))), qF (decide (v < (0 : Int))), qF (decide (v ≥ (((m.length : Nat) : Int)))), qF (decide (v ≥ (((m.length : Nat) : Int)))), qF (decide (v ≥ (((m.length : Nat) : Int)))), .q (.inb v m.length) (ansB true), qF (decide (v ≥ (((m.length : Nat) : Int)))), qL 4 b (0 + (v : Int).toNat * 1) M (.bool z0), qF (decide (v ≥ (((m.length : Nat) : Int)))), qT z0]) := by kernel_rfl
theorem w32_2 (ab b c Eo co ct cs_ ce kk : Nat) (at_ as_ ae : Option Addr) (v ms : Int) (vi : Value) (m : List Bool) (ad : AdjM) (z0 : Bool) {M M0 : Mem} (hM : MemOk M) (X0 : Ext M0 M) (gab : M.get ab = some ⟨[sli Eo 0 ad.out.length co, vi, .slice at_ ad.to.length ct, .slice as_ ad.set.length cs_], 48, 4, 0, true⟩) (gb : M.get b = some ⟨m.map Value.bool, 4, 1, 0, true⟩) (cc0 : (decide (v < (0 : Int))) = false) (cc1 : (decide (v ≥ (((m.length : Nat) : Int)))) = false) (cc2 : (z0) = true) (hi0 : 0 ≤ (v : Int) ∧ (v : Int) < m.length) (hc1 : ((m.map Value.bool))[0 + (v : Int).toNat * 1]? = some (.bool z0)) : ∃ M', Ev Try.prog [] 32 [(pt ab 0), (i64 v), (i64 ms), (sli b 0 m.length c)] M (.tuple #[]) M' ∧ Ext M0 M' ∧ MemOk M' ∧ M'.get b = some ⟨(m.map Value.bool), 4, 1, 0, true⟩ ∧ (∀ id k, M.get id = some k → id ≠ b → M'.get id = some k) := by
  have hraw := w32_2_raw ab b c Eo co ct cs_ ce kk at_ as_ ae v ms vi m ad M z0 
  have hkp : ∀ id k, M.get id = some k → id ≠ b → M.get id = some k := fun id k g h_b => by
    have g0 := Mem.lt_of_get g
    exact g
  exact ⟨M, Ev.told_none noNumP mixedP Try.func32 q32_ok (by kernel_rfl) rK32 (specs_none Try.prog) (fun _ _ => rfl) hraw (.inl rfl) (hk (bF cc0) (hk (bF cc0) (hk (bF cc0) (hk (bF cc0) (hk (bF cc0) (hk (bF cc1) (hk (bF cc1) (hk (bF cc1) (hk (q_inb hi0.1 hi0.2) (hk (bF cc1) (hk (q_ld (aload_cell (a := ⟨b, 0 + (v : Int).toNat * 1, none⟩) dC4 gb hc1)) (hk (bF cc1) (hk (bT cc2) hn))))))))))))), X0, hM, gb, hkp⟩
theorem w32_3_raw (ab b c Eo co ct cs_ ce kk : Nat) (at_ as_ ae : Option Addr) (v ms : Int) (vi : Value) (m : List Bool) (ad : AdjM) (M : Mem) (z0 : Bool) (M1 : Mem) (M9 : Mem) : oU Try.prog [0] 60 Try.f32 q32 [(pt ab 0), (i64 v), (i64 ms), (sli b 0 m.length c)] M [ttF 6, ttF 8, ttF 10, ttF 12, ttF 15, ttF 18, ttF 20, ttF 22, ttT 23, ttF 24, ttL 25 (.bool z0), ttF 27, ttF 28, ttT 34, ttS 36 M1, ttL 44 (sli Eo 0 ad.out.length co), ttT 48, ttL 50 (.slice ae (rowV ad.out v).length ce), ttT 52, .blk 55 [0, 2, 3, 33, 34, 35] .normal (fr []) M9] = some (.normal, M9, [qF (decide (v < (0 : Int))), qF (decide (v < (0 : Int))), qF (decide (v < (0 : Int))), qF (decide (v < (0 : Int))), qF (decide (v < (0 : Int))), qF (decide (v ≥ (((m.length : Nat) : Int)))), qF (decide (v ≥ (((m.length : Nat) : Int)))), qF (decide (v ≥ (((m.length : Nat) : Int)))), .q (.inb v m.length) (ansB true), qF (decide (v ≥ (((m.length : Nat) : Int)))), qL 4 b (0 + (v : Int).toNat * 1) M (.bool z0), qF (decide (v ≥ (((m.length : Nat) : Int)))), qF z0, .q (.inb v m.length) (ansB true), qS 4 b (0 + (v : Int).toNat * 1) (.bool true) M M1, qL 46 ab 0 M1 (sli Eo 0 ad.out.length co), .q (.inb v ad.out.length) (ansB true), qL 22 Eo (0 + (v : Int).toNat * 1) M1 (.slice ae (rowV ad.out v).length ce), .ln ae (rowV ad.out v).length ce, .blk 0 (.loop (q32.loopAt 0)) Try.f32.ntmps [0, 2, 3, 33, 34, 35] [some (pt ab 0), some (i64 ms), some (sli b 0 m.length c), some (.slice ae (rowV ad.out v).length ce), some (i64 ((((rowV ad.out v).length : Nat) : Int))), some (i64 0)] M1 .normal (fr []) M9]) := by kernel_rfl
theorem w32_3 (ab b c Eo co ct cs_ ce kk : Nat) (at_ as_ ae : Option Addr) (v ms : Int) (vi : Value) (m : List Bool) (ad : AdjM) (z0 : Bool) {M M0 : Mem} (hM : MemOk M) (X0 : Ext M0 M) (gab : M.get ab = some ⟨[sli Eo 0 ad.out.length co, vi, .slice at_ ad.to.length ct, .slice as_ ad.set.length cs_], 48, 4, 0, true⟩) (gb : M.get b = some ⟨m.map Value.bool, 4, 1, 0, true⟩) (nb : M0.next ≤ b) (dabb : ab ≠ b) (hadj : pAdj 48 ad (pt ab 0) M0) (hok : okR ad) (hml : m.length = ad.out.length) (hC : C32 kk) (hcnt : (m.set v.toNat true).count false < kk) (hrow : pInts (rowV ad.out v) (.slice ae (rowV ad.out v).length ce) M0) (hset : pInts ad.set (.slice as_ ad.set.length cs_) M0) (hto : pInts ad.to (.slice at_ ad.to.length ct) M0) (hvr : 0 ≤ v ∧ v.toNat < m.length) (cc0 : (decide (v < (0 : Int))) = false) (cc1 : (decide (v ≥ (((m.length : Nat) : Int)))) = false) (cc2 : (z0) = false) (hi0 : 0 ≤ (v : Int) ∧ (v : Int) < m.length) (hc1 : ((m.map Value.bool))[0 + (v : Int).toNat * 1]? = some (.bool z0)) (hof2 : 0 + (v : Int).toNat * 1 + 1 ≤ ((m.map Value.bool)).length) (hi3 : 0 ≤ (v : Int) ∧ (v : Int) < ad.out.length) (hld4 : aload Try.prog 22 ⟨Eo, 0 + (v : Int).toNat * 1, none⟩ M0 = some (.slice ae (rowV ad.out v).length ce)) : ∃ m13 M', Ev Try.prog [] 32 [(pt ab 0), (i64 v), (i64 ms), (sli b 0 m.length c)] M (.tuple #[]) M' ∧ Ext M0 M' ∧ MemOk M' ∧ M'.get b = some ⟨(m13.map Value.bool), 4, 1, 0, true⟩ ∧ (∀ id k, M.get id = some k → id ≠ b → M'.get id = some k) ∧ SprI ad ms v (rowV ad.out v) (m.set v.toNat true) (rowV ad.out v).length m13 := by
  obtain ⟨M1, q2, g3, kp4, X5, hM6, nx7⟩ := store_t (o := 0 + (v : Int).toNat * 1) (v := (.bool true)) (new := splice (m.map Value.bool) (0 + (v : Int).toNat * 1) [(.bool true)]) X0 nb hM dS4 gb rfl rfl (Nat.zero_le _) hof2 rfl
  replace g3 : M1.get b = some ⟨splice (m.map Value.bool) (0 + (v : Int).toNat * 1) [(.bool true)], 4, 1, 0, true⟩ := g3
  have g8 := (kp4 _ dabb).trans gab
  rw [set_splice (by omega)] at g3
  obtain ⟨m13, M9, hL10, X11, hM12, g14, kp15, sp16⟩ := loop32 hM6 X5 g8 g3 nb dabb hadj hok (by rw [List.length_set]; exact hml) hC hcnt hrow hset hto
  rw [List.length_set] at hL10
  have hraw := w32_3_raw ab b c Eo co ct cs_ ce kk at_ as_ ae v ms vi m ad M z0 M1 M9
  have hkp : ∀ id k, M.get id = some k → id ≠ b → M9.get id = some k := fun id k g h_b => by
    have g0 := Mem.lt_of_get g
    have g := ((fun id h _ => kp4 id h) id h_b (Mem.lt_of_get g)).trans g
    have g := kp15 id k g h_b
    exact g
  exact ⟨m13, M9, Ev.told_none noNumP mixedP Try.func32 q32_ok (by kernel_rfl) rK32 (fun B => specsB_ok (l := []) (fun p hp => by cases hp) (k := [(0, bone (.loop (q32.loopAt 0)) Try.f32.ntmps [0, 2, 3, 33, 34, 35] [some (pt ab 0), some (i64 ms), some (sli b 0 m.length c), some (.slice ae (rowV ad.out v).length ce), some (i64 ((((rowV ad.out v).length : Nat) : Int))), some (i64 0)] M1 .normal (fr []) M9)]) (fun p hp => by simp only [List.mem_cons, List.not_mem_nil, or_false] at hp; rcases hp with rfl <;> first | exact BlkOk.loop noNumP mixedP hL10)) (fun _ h => blksF_one h) hraw (.inr rfl) (hk (bF cc0) (hk (bF cc0) (hk (bF cc0) (hk (bF cc0) (hk (bF cc0) (hk (bF cc1) (hk (bF cc1) (hk (bF cc1) (hk (q_inb hi0.1 hi0.2) (hk (bF cc1) (hk (q_ld (aload_cell (a := ⟨b, 0 + (v : Int).toNat * 1, none⟩) dC4 gb hc1)) (hk (bF cc1) (hk (bF cc2) (hk (q_inb hi0.1 hi0.2) (hk (q_st q2) (hk (lC dC46 g8 rfl) (hk (q_inb hi3.1 hi3.2) (hk (q_ld (aload_ext X5 hld4)) (hk (lN hrow.ln) (hk (q_blk rfl) hn)))))))))))))))))))), X11, hM12, g14, hkp, sp16⟩
theorem con32k (kk : Nat) : C32 kk := by
  induction kk with
  | zero => intro x lv M _ _ h; omega
  | succ kk ih =>
    intro x lv M hM h hlt
    obtain ⟨ad, v, ms, b, m⟩ := x
    have hA := h
    obtain ⟨p, c, rfl, hadj, gb, hok, hml⟩ := h
    simp only at hadj gb hml hlt hok ⊢
    have hbn : b ≤ M.next := Nat.le_of_lt (Mem.lt_of_get gb)
    have X0 := Ext.cut hbn
    obtain ⟨ab, vo, vi, vt, vs, rfl, gab, hout, hinn, hto, hset⟩ := id hadj
    have hab : ab < b := ((cut_get hbn).1 gab).1
    have gab' := X0.old gab
    obtain ⟨Eo, co, rfl⟩ := rowss_form hout
    obtain ⟨at_, ct, rfl⟩ := GRowsAt.form hto
    obtain ⟨as_, cs_, rfl⟩ := GRowsAt.form hset
    have dabb : ab ≠ b := by omega
    have fin : ∀ M' m', Ev Try.prog [] 32 [pt ab 0, i64 v, i64 ms, sli b 0 m.length c] M (.tuple #[]) M' → Ext (cut b M) M' → M'.get b = some ⟨m'.map Value.bool, 4, 1, 0, true⟩ → (∀ id k, M.get id = some k → id ≠ b → M'.get id = some k) → Spr ad ms v m m' → ∃ v' M', TC Try.prog [] 32 (QSp 48) [pt ab 0, i64 v, i64 ms, sli b 0 m.length c] M v' M' :=
      fun M' m' h1 h2 h3 h4 h5 => ⟨_, M', h1, (ad, v, ms, b, m), m', hA, h5, h3, h2, h4⟩
    by_cases h0 : v < 0
    · obtain ⟨M', h1, h2, h3, h4, h5⟩ := w32_0 ab b c Eo co ct cs_ 0 kk at_ as_ none v ms vi m ad hM X0 gab' gb (decide_eq_true h0)
      exact fin M' m h1 h2 h4 h5 (Spr.same fun hh => by omega)
    · by_cases h1 : v < (m.length : Int)
      · have hu : m[v.toNat]? = some m[v.toNat] := List.getElem?_eq_getElem (by omega)
        have hcell : (m.map Value.bool)[0 + v.toNat * 1]? = some (.bool m[v.toNat]) := by rw [Nat.zero_add, Nat.mul_one, List.getElem?_map, hu]; rfl
        have hvr : 0 ≤ v ∧ v < ((m.length : Nat) : Int) := ⟨by omega, h1⟩
        cases hz : m[v.toNat] with
        | true =>
          rw [hz] at hu hcell
          obtain ⟨M', h1, h2, h3, h4, h5⟩ := w32_2 ab b c Eo co ct cs_ 0 kk at_ as_ none v ms vi m ad true hM X0 gab' gb (decide_eq_false h0) (decide_eq_false (by omega)) rfl hvr hcell
          exact fin M' m h1 h2 h4 h5 (Spr.same fun _ _ => hu)
        | false =>
          rw [hz] at hu hcell
          have ho : ad.out[v.toNat]? = some ad.out[v.toNat] := List.getElem?_eq_getElem (by omega)
          have hrv : rowV ad.out v = ad.out[v.toNat] := by unfold rowV; rw [if_pos (by omega), ho]; rfl
          obtain ⟨ae, ce, l1, l2⟩ := ld_rowss (P := Try.prog) (ty := 22) hout ho dC22
          rw [← hrv] at l1 l2
          have hcs := cnt_set hu
          obtain ⟨m', M', h1, h2, h3, h4, h5, h6⟩ := w32_3 ab b c Eo co ct cs_ ce kk at_ as_ ae v ms vi m ad false hM X0 gab' gb (by show b ≤ b; omega) dabb hadj hok hml ih (by omega) l2 hset hto (by omega) (decide_eq_false h0) (decide_eq_false (by omega)) rfl hvr hcell (by simp; omega) (by omega) l1
          refine fin M' m' h1 h2 h4 h5 ?_
          have hv : ((v.toNat : Nat) : Int) = v := by omega
          rw [← hv] at h6 ⊢
          rw [Int.toNat_natCast] at h6
          exact h6.fin hu
      · obtain ⟨M', h1, h2, h3, h4, h5⟩ := w32_1 ab b c Eo co ct cs_ 0 kk at_ as_ none v ms vi m ad hM X0 gab' gb (decide_eq_false h0) (decide_eq_true (by omega))
        exact fin M' m h1 h2 h4 h5 (Spr.same fun _ hh => by omega)
theorem con32 {x : AdjM × Int × Int × Nat × List Bool} {lv : List Value} {M : Mem} (hM : MemOk M) (h : asSp 48 x lv M) : ∃ v M', TC Try.prog [] 32 (QSp 48) lv M v M' := con32k (x.2.2.2.2.count false + 1) hM h (Nat.lt_succ_self _)
end Go.Proofs.Ytipnhelkganmdaa

set_option linter.unusedVariables false
set_option linter.unusedSimpArgs false
open Go Go.Am Go.Proofs
namespace Go.Proofs.Ytipnhelkganmdaa
set_option maxRecDepth 100000
set_option linter.unusedVariables false
set_option linter.unusedSimpArgs false
theorem r16c_raw (b n c i : Nat) (S : Value) (l : List Int) (m : List Bool) (M : Mem) (z0 : Bool) (b1 : Nat) (M2 : Mem) (t12 : Bool) (S13 : Value) (M14 : Mem) : oR Try.prog [] 100 Try.f16 (q16.loopAt 0) [(8, S), (22, (sli b 0 n c)), (23, (i64 (((n : Nat) : Int)))), (24, (i64 (((i : Nat) : Int))))] M [ttT 2, ttT 6, ttL 8 (.bool z0), ttT 15, ttV 21 (sli b1 0 1 2) M2, .at 23 ((bif t12 then 1 else 2), .val S13, M14)] [8, 22, 23, 24] = some (.normal, [some S13, some (sli b 0 n c), some (i64 (((n : Nat) : Int))), some (i64 (IntKind.wrap .i64 ((((i : Nat) : Int)) + (1 : Int))))], M14, [qT (decide ((((i : Nat) : Int)) < (((n : Nat) : Int)))), .q (.inb (((i : Nat) : Int)) n) (ansB true), qL 4 b (0 + (((i : Nat) : Int) : Int).toNat * 1) M (.bool z0), qT z0, .eq (abuildSlice Try.prog 22 1 [(0, (i64 (((i : Nat) : Int))))] M) (1, .val (sli b1 0 1 2), M2), .q (.append [22, 22] S (sli b1 0 1 2) M2) ((bif t12 then 1 else 2), .val S13, M14)]) := by cases t12 <;> kernel_rfl
theorem r16c (b n c i : Nat) (S : Value) (l : List Int) (m : List Bool) (z0 : Bool) {M M0 : Mem} (hM : MemOk M) (X0 : Ext M0 M) (gb : M.get b = some ⟨m.map Value.bool, 4, 1, 0, true⟩) (hA : AccC 3 1 M0 [b] l.length (l.map i64) S M) (hl30 : l.length < 1073741824) (cc0 : (decide ((((i : Nat) : Int)) < (((n : Nat) : Int)))) = true) (cc1 : (z0) = true) (hc0 : ((m.map Value.bool))[0 + (((i : Nat) : Int) : Int).toNat * 1]? = some (.bool z0)) : ∃ T1 M' S13, Rd Try.prog [] (q16.loopAt 0) Try.f16.ntmps (fr [(8, S), (22, (sli b 0 n c)), (23, (i64 (((n : Nat) : Int)))), (24, (i64 (((i : Nat) : Int))))]) M .normal T1 M' ∧ [8, 22, 23, 24].map T1.get = [some S13, some (sli b 0 n c), some (i64 (((n : Nat) : Int))), some (i64 (IntKind.wrap .i64 ((((i : Nat) : Int)) + (1 : Int))))] ∧ Ext M0 M' ∧ MemOk M' ∧ M'.get b = some ⟨(m.map Value.bool), 4, 1, 0, true⟩ ∧ AccC 3 1 M0 [b] (l.length + 1) ((l.map i64) ++ [(i64 (((i : Nat) : Int)))]) S13 M' := by
  obtain ⟨b1, M2, eb3, em4, g5, E6, hM7⟩ := new_t hM ⟨[(i64 (((i : Nat) : Int)))], 3, 1, 0, true⟩
  have nb1 : M0.next ≤ b1 := by rw [← eb3]; exact X0.next
  have dbb1 : b ≠ b1 := by have := Mem.lt_of_get gb; omega
  have A8 := hA.new eb3 E6
  have g9 := E6.old gb
  have nx10 := E6.next
  have X11 := X0.trans E6
  obtain ⟨t12, S13, M14, q15, X16, hM17, A18, kb19, ka20⟩ := accc_append (P := Try.prog) (sT := 22) (xT := 22) (y := 8) (c := 2) A8 X11 hM7 (by intro x hx; simp only [List.mem_cons, List.not_mem_nil, or_false] at hx; rcases hx with rfl | rfl <;> first | exact Mem.lt_of_get g5 | exact Mem.lt_of_get g9) (by kernel_rfl) (by kernel_rfl) (by kernel_rfl) (by kernel_rfl) (by decide) (by decide) rfl hl30 g5 (o := 0) (new := [(i64 (((i : Nat) : Int)))]) rfl rfl rfl
  have g21 := kb19 _ _ g9 (by simp)
  have g22 := kb19 _ _ g5 (by simp)
  have hraw := r16c_raw b n c i S l m M z0 b1 M2 t12 S13 M14
  obtain ⟨T1, h1, h2⟩ := Rd.told noNumP mixedP (specs_none Try.prog) (fun _ _ => rfl) hraw (hk (bT cc0) (hk (q_inb (by omega) (by simp at cc0; omega)) (hk (q_ld (aload_cell (a := ⟨b, 0 + (((i : Nat) : Int) : Int).toNat * 1, none⟩) dC4 gb hc0)) (hk (bT cc1) (hk (q_eq (by rw [← eb3, ← em4]; kernel_rfl) Nat.one_ne_zero) (hk (q_app q15 (by cases t12 <;> simp)) hn))))))
  exact ⟨T1, M14, S13, h1, h2, X16, hM17, g21, A18.less (by intro x hx; simp only [List.mem_cons, List.not_mem_nil, or_false] at hx; subst hx; simp)⟩
theorem r16n_raw (b n c i : Nat) (S : Value) (l : List Int) (m : List Bool) (M : Mem) (z0 : Bool)  : oR Try.prog [] 60 Try.f16 (q16.loopAt 0) [(8, S), (22, (sli b 0 n c)), (23, (i64 (((n : Nat) : Int)))), (24, (i64 (((i : Nat) : Int))))] M [ttT 2, ttT 6, ttL 8 (.bool z0), ttF 15] [8, 22, 23, 24] = some (.normal, [some S, some (sli b 0 n c), some (i64 (((n : Nat) : Int))), some (i64 (IntKind.wrap .i64 ((((i : Nat) : Int)) + (1 : Int))))], M, [qT (decide ((((i : Nat) : Int)) < (((n : Nat) : Int)))), .q (.inb (((i : Nat) : Int)) n) (ansB true), qL 4 b (0 + (((i : Nat) : Int) : Int).toNat * 1) M (.bool z0), qF z0]) := by kernel_rfl
theorem r16n (b n c i : Nat) (S : Value) (l : List Int) (m : List Bool) (z0 : Bool) {M : Mem} {M0 : Mem} (X0 : Ext M0 M) (gb : M.get b = some ⟨m.map Value.bool, 4, 1, 0, true⟩) (cc0 : (decide ((((i : Nat) : Int)) < (((n : Nat) : Int)))) = true) (cc1 : (z0) = false) (hc0 : ((m.map Value.bool))[0 + (((i : Nat) : Int) : Int).toNat * 1]? = some (.bool z0)) : ∃ T1, Rd Try.prog [] (q16.loopAt 0) Try.f16.ntmps (fr [(8, S), (22, (sli b 0 n c)), (23, (i64 (((n : Nat) : Int)))), (24, (i64 (((i : Nat) : Int))))]) M .normal T1 M ∧ [8, 22, 23, 24].map T1.get = [some S, some (sli b 0 n c), some (i64 (((n : Nat) : Int))), some (i64 (IntKind.wrap .i64 ((((i : Nat) : Int)) + (1 : Int))))] := by
  have hraw := r16n_raw b n c i S l m M z0 
  obtain ⟨T1, h1, h2⟩ := Rd.told noNumP mixedP (specs_none Try.prog) (fun _ _ => rfl) hraw (hk (bT cc0) (hk (q_inb (by omega) (by simp at cc0; omega)) (hk (q_ld (aload_cell (a := ⟨b, 0 + (((i : Nat) : Int) : Int).toNat * 1, none⟩) dC4 gb hc0)) (hk (bF cc1) hn))))
  exact ⟨T1, h1, h2⟩
theorem r16x_raw (b n c i : Nat) (S : Value) (M : Mem)  : oR Try.prog [] 60 Try.f16 (q16.loopAt 0) [(8, S), (22, (sli b 0 n c)), (23, (i64 (((n : Nat) : Int)))), (24, (i64 (((i : Nat) : Int))))] M [ttF 2] [8] = some ((.exit 0), [some S], M, [qF (decide ((((i : Nat) : Int)) < (((n : Nat) : Int))))]) := by kernel_rfl
theorem r16x (b n c i : Nat) (S : Value) {M : Mem} (cc0 : (decide ((((i : Nat) : Int)) < (((n : Nat) : Int)))) = false) : ∃ T1, Rd Try.prog [] (q16.loopAt 0) Try.f16.ntmps (fr [(8, S), (22, (sli b 0 n c)), (23, (i64 (((n : Nat) : Int)))), (24, (i64 (((i : Nat) : Int))))]) M (.exit 0) T1 M ∧ [8].map T1.get = [some S] := by
  have hraw := r16x_raw b n c i S M  
  obtain ⟨T1, h1, h2⟩ := Rd.told noNumP mixedP (specs_none Try.prog) (fun _ _ => rfl) hraw (hk (bF cc0) hn)
  exact ⟨T1, h1, h2⟩
theorem acc_newI {M0 M : Mem} {S : Value} {l : List Int} {bad : List Nat} {n0 : Nat} (h : AccC 3 1 M0 bad l.length (l.map i64) S M) (hl : l.length ≤ 9223372036854775807) (hn : n0 ≤ M0.next) : pInts l S (hid n0 M) := by
  rcases h with ⟨rfl, h0, _⟩ | ⟨b, rfl, _, _, h3, h5, h6⟩
  · rw [List.eq_nil_of_length_eq_zero h0]; exact GRowsAt.nil none
  · exact GRowsAt.of_blk' (hid_of (by omega) h6) rfl (flat1 l).symm (fun _ _ => rfl) hl
theorem loop16 {b n c : Nat} {m : List Bool} {M0 M : Mem} (hM : MemOk M) (X : Ext M0 M) (gb : M.get b = some ⟨m.map Value.bool, 4, 1, 0, true⟩) (hml : m.length = n) (hn : n ≤ 60) :
    ∃ S M', LoopR Try.prog [] (q16.loopAt 0) Try.f16.ntmps (fr [(8, sln), (22, sli b 0 n c), (23, i64 ((n : Nat) : Int)), (24, i64 ((0 : Nat) : Int))]) M (.exit 0) (fr [(8, S)]) M' ∧ Ext M0 M' ∧ MemOk M' ∧ pInts (trueTo m n) S (hid M0.next M') := by
  obtain ⟨S, M', h1, h2, h3, _, h4⟩ := LoopR.for (P := Try.prog) (GL := []) (b := q16.loopAt 0) (nt := Try.f16.ntmps) (id := 0) (σ := Value) (n := n)
    (Inv := fun i S M1 => Ext M0 M1 ∧ MemOk M1 ∧ M1.get b = some ⟨m.map Value.bool, 4, 1, 0, true⟩ ∧ AccC 3 1 M0 [b] (trueTo m i).length ((trueTo m i).map i64) S M1)
    (F := fun i S => [(8, S), (22, sli b 0 n c), (23, i64 ((n : Nat) : Int)), (24, i64 ((i : Nat) : Int))])
    (O := fun S => [(8, S)])
    (by
      rintro i S M1 hi ⟨X1, hM1, g1, hA⟩
      have hl := trueTo_len m i
      have hu : m[i]? = some m[i] := List.getElem?_eq_getElem (by omega)
      rw [trueTo_succ]
      cases hz : m[i] with
      | true =>
        rw [hz] at hu
        have hcell : (m.map Value.bool)[0 + (((i : Nat) : Int)).toNat * 1]? = some (.bool true) := by rw [Nat.zero_add, Nat.mul_one, Int.toNat_natCast, List.getElem?_map, hu]; rfl
        obtain ⟨T1, M2, S2, h1, h2, h3, h4, h5, h6⟩ := r16c b n c i S (trueTo m i) m true hM1 X1 g1 hA (by omega) (decide_eq_true (by omega)) rfl hcell
        rw [wrap_succ (by omega)] at h2
        refine ⟨S2, T1, M2, h1, h2, h3, h4, h5, ?_⟩
        rw [if_pos hu, List.length_append, List.map_append]
        exact h6
      | false =>
        rw [hz] at hu
        have hcell : (m.map Value.bool)[0 + (((i : Nat) : Int)).toNat * 1]? = some (.bool false) := by rw [Nat.zero_add, Nat.mul_one, Int.toNat_natCast, List.getElem?_map, hu]; rfl
        obtain ⟨T1, h1, h2⟩ := r16n b n c i S (trueTo m i) m false (M := M1) X1 g1 (decide_eq_true (by omega)) rfl hcell
        rw [wrap_succ (by omega)] at h2
        refine ⟨S, T1, M1, h1, h2, X1, hM1, g1, ?_⟩
        rw [if_neg (by rw [hu]; simp), List.append_nil]
        exact hA)
    (by
      rintro S M1 ⟨X1, hM1, g1, hA⟩
      exact r16x b n c n S (M := M1) (decide_eq_false (by omega)))
    n 0 (by omega) (s := sln) (M := M) ⟨X, hM, gb, .inl ⟨rfl, rfl, rfl⟩⟩
  have hl := trueTo_len m n
  exact ⟨S, M', h1, h2, h3, acc_newI h4 (by omega) (Nat.le_refl _)⟩
theorem rK16 : Try.f16.results = #[.tmp 6] := by kernel_rfl
theorem hS16_32 (B : Bd) : ∀ p ∈ ([(32, pick (TC Try.prog [] 32 (QSp 48)))] : List (FuncId × (List Value → Mem → Option (Value × Mem)))), SpecOk Try.prog [] B p.1 p.2 := (fun p hp => by simp only [List.mem_cons, List.not_mem_nil, or_false] at hp; rcases hp with rfl <;> first | exact Con.ok _ | exact TC.ok _)
theorem w16_raw (ab Eo co : Nat) (v ms : Int) (vi vt vs : Value) (ad : AdjM) (M : Mem) (b1 : Nat) (M2 : Mem) (t10 : Bool) (w11 : Value) (m12 : List Bool) (M13 : Mem) (S22 : Value) (M23 : Mem) : oT Try.prog [0] 60 Try.f16 q16 [(pt ab 0), (i64 v), (i64 ms)] M [ttL 9 (sli Eo 0 ad.out.length co), ttV 13 (sli b1 0 ad.out.length (ad.out.length + 1)) M2, .at 25 ((bif t10 then 1 else 2), .val w11, M13), .blk 34 [8, 22, 23, 24] .normal (fr [(8, S22)]) M23] 6 = some (.ret, some S22, M23, [qL 46 ab 0 M (sli Eo 0 ad.out.length co), .eq (amakeSlice Try.prog 55 (i64 (((ad.out.length : Nat) : Int))) (i64 (((ad.out.length : Nat) : Int))) M) (1, .val (sli b1 0 ad.out.length (ad.out.length + 1)), M2), .cl 32 [(pt ab 0), (i64 v), (i64 ms), (sli b1 0 ad.out.length (ad.out.length + 1))] M2 ((bif t10 then 1 else 2), .val w11, M13), .blk 0 (.loop (q16.loopAt 0)) Try.f16.ntmps [8, 22, 23, 24] [some sln, some (sli b1 0 ad.out.length (ad.out.length + 1)), some (i64 (((ad.out.length : Nat) : Int))), some (i64 0)] M13 .normal (fr [(8, S22)]) M23]) := by cases t10 <;> kernel_rfl
theorem w16 (ab Eo co : Nat) (v ms : Int) (vi vt vs : Value) (ad : AdjM) {M : Mem} (hM : MemOk M) (gab : M.get ab = some ⟨[sli Eo 0 ad.out.length co, vi, vt, vs], 48, 4, 0, true⟩) (hadj : pAdj 48 ad (pt ab 0) M) (hok : okR ad) (hn60 : ad.out.length ≤ 60) (hn0 : ad.out.length < 137438953472) : ∃ v_ M', Ev Try.prog [] 16 [(pt ab 0), (i64 v), (i64 ms)] M v_ M' ∧ Ext M M' ∧ MemOk M' ∧ newR pInts (reachL ad ms v) M.next v_ M' := by
  obtain ⟨b1, M2, eb3, em4, g5, E6, hM7⟩ := mks_t (P := Try.prog) (t := 55) (elem := 4) (z := (.bool false)) (n := ad.out.length) hM (by kernel_rfl) (by kernel_rfl) hn0
  have nb1 : M.next ≤ b1 := by rw [← eb3]; exact (Ext.refl M).next
  have dabb1 : ab ≠ b1 := by have := Mem.lt_of_get gab; omega
  have g8 := E6.old gab
  have X9 := (Ext.refl M).trans E6
  have gRb1 : M2.get b1 = some ⟨(List.replicate ad.out.length false).map Value.bool, 4, 1, 0, true⟩ := by rw [List.map_replicate]; exact g5
  obtain ⟨t10, w11, m12, M13, hc14, X15, hM16, nx17, g18, kp19, sp20⟩ := call_sp (P := Try.prog) (f := 32) (x := (ad, v, ms, b1, List.replicate ad.out.length false)) (l := [(pt ab 0), (i64 v), (i64 ms), (sli b1 0 ad.out.length (ad.out.length + 1))]) hM7 X9 nb1 (⟨pt ab 0, ad.out.length + 1, by rw [List.length_replicate], AP.ext (R := pAdj 48) (Ext.below X9 nb1 (Nat.le_of_lt (Mem.lt_of_get g5))) hadj, gRb1, hok, List.length_replicate⟩) (con32 (lv := [(pt ab 0), (i64 v), (i64 ms), (sli b1 0 ad.out.length (ad.out.length + 1))]) (MemOk.log hM7) (asSp.log (x := (ad, v, ms, b1, List.replicate ad.out.length false)) (⟨pt ab 0, ad.out.length + 1, by rw [List.length_replicate], AP.ext (R := pAdj 48) (Ext.below X9 nb1 (Nat.le_of_lt (Mem.lt_of_get g5))) hadj, gRb1, hok, List.length_replicate⟩)))
  have g21 := kp19 _ _ g8 dabb1
  obtain ⟨S22, M23, hL24, X25, hM26, nw27⟩ := loop16 hM16 X15 g18 (c := ad.out.length + 1) ((sp20).len.trans List.length_replicate) hn60
  have hraw := w16_raw ab Eo co v ms vi vt vs ad M  b1 M2 t10 w11 m12 M13 S22 M23
  exact ⟨S22, M23, Ev.told_tmp noNumP mixedP Try.func16 q16_ok (by kernel_rfl) rK16 (fun B => specsB_ok (hS16_32 B) (k := [(0, bone (.loop (q16.loopAt 0)) Try.f16.ntmps [8, 22, 23, 24] [some sln, some (sli b1 0 ad.out.length (ad.out.length + 1)), some (i64 (((ad.out.length : Nat) : Int))), some (i64 0)] M13 .normal (fr [(8, S22)]) M23)]) (fun p hp => by simp only [List.mem_cons, List.not_mem_nil, or_false] at hp; rcases hp with rfl <;> first | exact BlkOk.loop noNumP mixedP hL24)) (fun _ h => blksF_one h) hraw (hk (lC dC46 gab rfl) (hk (q_eq em4 Nat.one_ne_zero) (hk (hc14 _ rfl) (hk (q_blk rfl) hn)))), X25, hM26, (by rw [← reach_marks sp20]; exact nw27)⟩
end Go.Proofs.Ytipnhelkganmdaa

set_option linter.unusedVariables false
set_option linter.unusedSimpArgs false
open Go Go.Am Go.Proofs
namespace Go.Proofs.Ytipnhelkganmdaa
set_option maxRecDepth 100000
set_option linter.unusedVariables false
set_option linter.unusedSimpArgs false
theorem rK15 : Try.f15.results = #[.tmp 4] := by kernel_rfl
theorem w15_0_raw (x n : Int) (M : Mem)  : oT Try.prog [] 51 Try.f15 q15 [(i64 x), (i64 n)] M [ttT 7, ttT 14] 4 = some (.ret, some (i64 (IntKind.wrap .i64 ((x.tmod n) + n))), M, [.q (.nz n) (ansB true), qT (decide ((x.tmod n) < (0 : Int)))]) := by kernel_rfl
theorem w15_0 (x n : Int) {M : Mem} (hM : MemOk M) (hnz : n ≠ 0) (cc0 : (decide ((x.tmod n) < (0 : Int))) = true) : ∃ v_ M', Ev Try.prog [] 15 [(i64 x), (i64 n)] M v_ M' ∧ Ext M M' ∧ MemOk M' ∧ v_ = (i64 (IntKind.wrap .i64 ((x.tmod n) + n))) := by
  have hraw := w15_0_raw x n M  
  exact ⟨(i64 (IntKind.wrap .i64 ((x.tmod n) + n))), M, Ev.told_tmp noNumP mixedP Try.func15 q15_ok (by kernel_rfl) rK15 (specs_none Try.prog) (fun _ _ => rfl) hraw (hk (q_nz hnz) (hk (bT cc0) hn)), (Ext.refl M), hM, rfl⟩
theorem w15_1_raw (x n : Int) (M : Mem)  : oT Try.prog [] 51 Try.f15 q15 [(i64 x), (i64 n)] M [ttT 7, ttF 14] 4 = some (.ret, some (i64 (x.tmod n)), M, [.q (.nz n) (ansB true), qF (decide ((x.tmod n) < (0 : Int)))]) := by kernel_rfl
theorem w15_1 (x n : Int) {M : Mem} (hM : MemOk M) (hnz : n ≠ 0) (cc0 : (decide ((x.tmod n) < (0 : Int))) = false) : ∃ v_ M', Ev Try.prog [] 15 [(i64 x), (i64 n)] M v_ M' ∧ Ext M M' ∧ MemOk M' ∧ v_ = (i64 (x.tmod n)) := by
  have hraw := w15_1_raw x n M  
  exact ⟨(i64 (x.tmod n)), M, Ev.told_tmp noNumP mixedP Try.func15 q15_ok (by kernel_rfl) rK15 (specs_none Try.prog) (fun _ _ => rfl) hraw (hk (q_nz hnz) (hk (bF cc0) hn)), (Ext.refl M), hM, rfl⟩
abbrev Q15 := FC (asP (as2 pI pI) fun x => (decide (0 < x.2) && decide (x.2 < 2 ^ 62)) = true) (plain pI) (fun x => modI x.1 x.2)
theorem con15 {x : Int × Int} {lv : List Value} {M : Mem} (hM : MemOk M) (h : (asP (as2 pI pI) fun x : Int × Int => (decide (0 < x.2) && decide (x.2 < 2 ^ 62)) = true) x lv M) : ∃ v M', Con Try.prog [] 15 Q15 lv M v M' := by
  refine FC.con h ?_
  obtain ⟨⟨g0, g1, rfl, rfl, rfl⟩, hc⟩ := h
  obtain ⟨x, n⟩ := x
  simp only [Bool.and_eq_true, decide_eq_true_eq] at hc ⊢
  by_cases hlt : x.tmod n < 0
  · obtain ⟨v, M', h1, h2, _, h3⟩ := w15_0 x n hM (by omega) (decide_eq_true hlt)
    exact ⟨v, M', h1, h2, h3.trans (congrArg i64 (modI_neg hc.1 hc.2 hlt))⟩
  · obtain ⟨v, M', h1, h2, _, h3⟩ := w15_1 x n hM (by omega) (decide_eq_false hlt)
    exact ⟨v, M', h1, h2, h3.trans (congrArg i64 (modI_pos hlt))⟩
theorem r12n_raw (bb o m c bb2 o2 c2 i : Nat) (x y : Int) (M : Mem)  : oR Try.prog [] 51 Try.f20 (q20.loopAt 0) [(0, (sli bb o m c)), (1, (sli bb2 o2 m c2)), (5, (i64 (((i : Nat) : Int))))] M [ttT 8, ttT 14, ttL 16 (i64 x), ttT 22, ttL 24 (i64 y), ttF 27] [0, 1, 5] = some (.normal, [some (sli bb o m c), some (sli bb2 o2 m c2), some (i64 (IntKind.wrap .i64 ((((i : Nat) : Int)) + (1 : Int))))], M, [qT (decide ((((i : Nat) : Int)) < (((m : Nat) : Int)))), .q (.inb (((i : Nat) : Int)) m) (ansB true), qL 3 bb (o + (((i : Nat) : Int) : Int).toNat * 1) M (i64 x), .q (.inb (((i : Nat) : Int)) m) (ansB true), qL 3 bb2 (o2 + (((i : Nat) : Int) : Int).toNat * 1) M (i64 y), qF (!(x == y))]) := by kernel_rfl
theorem r12n (bb o m c bb2 o2 c2 i : Nat) (x y : Int) {M : Mem} {M0 : Mem} (X0 : Ext M0 M) (cc0 : (decide ((((i : Nat) : Int)) < (((m : Nat) : Int)))) = true) (cc1 : (x == y) = true) (hld0 : aload Try.prog 3 ⟨bb, o + (((i : Nat) : Int) : Int).toNat * 1, none⟩ M0 = some (i64 x)) (hld1 : aload Try.prog 3 ⟨bb2, o2 + (((i : Nat) : Int) : Int).toNat * 1, none⟩ M0 = some (i64 y)) : ∃ T1, Rd Try.prog [] (q20.loopAt 0) Try.f20.ntmps (fr [(0, (sli bb o m c)), (1, (sli bb2 o2 m c2)), (5, (i64 (((i : Nat) : Int))))]) M .normal T1 M ∧ [0, 1, 5].map T1.get = [some (sli bb o m c), some (sli bb2 o2 m c2), some (i64 (IntKind.wrap .i64 ((((i : Nat) : Int)) + (1 : Int))))] := by
  have hraw := r12n_raw bb o m c bb2 o2 c2 i x y M  
  obtain ⟨T1, h1, h2⟩ := Rd.told noNumP mixedP (specs_none Try.prog) (fun _ _ => rfl) hraw (hk (bT cc0) (hk (q_inb (by omega) (by simp at cc0; omega)) (hk (q_ld (aload_ext X0 hld0)) (hk (q_inb (by omega) (by simp at cc0; omega)) (hk (q_ld (aload_ext X0 hld1)) (hk (bF (by rw [cc1]; rfl)) hn))))))
  exact ⟨T1, h1, h2⟩
theorem r12r_raw (bb o m c bb2 o2 c2 i : Nat) (x y : Int) (M : Mem)  : oR Try.prog [] 51 Try.f20 (q20.loopAt 0) [(0, (sli bb o m c)), (1, (sli bb2 o2 m c2)), (5, (i64 (((i : Nat) : Int))))] M [ttT 8, ttT 14, ttL 16 (i64 x), ttT 22, ttL 24 (i64 y), ttT 27] [4] = some (.ret, [some (.bool false)], M, [qT (decide ((((i : Nat) : Int)) < (((m : Nat) : Int)))), .q (.inb (((i : Nat) : Int)) m) (ansB true), qL 3 bb (o + (((i : Nat) : Int) : Int).toNat * 1) M (i64 x), .q (.inb (((i : Nat) : Int)) m) (ansB true), qL 3 bb2 (o2 + (((i : Nat) : Int) : Int).toNat * 1) M (i64 y), qT (!(x == y))]) := by kernel_rfl
theorem r12r (bb o m c bb2 o2 c2 i : Nat) (x y : Int) {M : Mem} {M0 : Mem} (X0 : Ext M0 M) (cc0 : (decide ((((i : Nat) : Int)) < (((m : Nat) : Int)))) = true) (cc1 : (x == y) = false) (hld0 : aload Try.prog 3 ⟨bb, o + (((i : Nat) : Int) : Int).toNat * 1, none⟩ M0 = some (i64 x)) (hld1 : aload Try.prog 3 ⟨bb2, o2 + (((i : Nat) : Int) : Int).toNat * 1, none⟩ M0 = some (i64 y)) : ∃ T1, Rd Try.prog [] (q20.loopAt 0) Try.f20.ntmps (fr [(0, (sli bb o m c)), (1, (sli bb2 o2 m c2)), (5, (i64 (((i : Nat) : Int))))]) M .ret T1 M ∧ [4].map T1.get = [some (.bool false)] := by
  have hraw := r12r_raw bb o m c bb2 o2 c2 i x y M  
  obtain ⟨T1, h1, h2⟩ := Rd.told noNumP mixedP (specs_none Try.prog) (fun _ _ => rfl) hraw (hk (bT cc0) (hk (q_inb (by omega) (by simp at cc0; omega)) (hk (q_ld (aload_ext X0 hld0)) (hk (q_inb (by omega) (by simp at cc0; omega)) (hk (q_ld (aload_ext X0 hld1)) (hk (bT (by rw [cc1]; rfl)) hn))))))
  exact ⟨T1, h1, h2⟩
theorem r12x_raw (a : Option Addr) (m c i : Nat) (V2 : Value) (M : Mem)  : oR Try.prog [] 51 Try.f20 (q20.loopAt 0) [(0, (.slice a m c)), (1, V2), (5, (i64 (((i : Nat) : Int))))] M [ttT 5, ttF 8] [] = some ((.exit 0), [], M, [.ln a m c, qF (decide ((((i : Nat) : Int)) < (((m : Nat) : Int))))]) := by kernel_rfl
theorem r12x (a : Option Addr) (m c i : Nat) (V2 : Value) {M : Mem} (hln : a.isNone = true → m = 0 ∧ c = 0) (cc0 : (decide ((((i : Nat) : Int)) < (((m : Nat) : Int)))) = false) : ∃ T1, Rd Try.prog [] (q20.loopAt 0) Try.f20.ntmps (fr [(0, (.slice a m c)), (1, V2), (5, (i64 (((i : Nat) : Int))))]) M (.exit 0) T1 M ∧ [].map T1.get = [] := by
  have hraw := r12x_raw a m c i V2 M  
  obtain ⟨T1, h1, h2⟩ := Rd.told noNumP mixedP (specs_none Try.prog) (fun _ _ => rfl) hraw (hk (lN hln) (hk (bF cc0) hn))
  exact ⟨T1, h1, h2⟩
theorem loop12 {a a2 : Option Addr} {c c2 : Nat} {l k : List Int} {M : Mem} (hM : MemOk M) (hs : pInts l (.slice a l.length c) M) (hs2 : pInts k (.slice a2 l.length c2) M) :
    ∃ e O M', LoopR Try.prog [] (q20.loopAt 0) Try.f20.ntmps (fr [(0, .slice a l.length c), (1, .slice a2 l.length c2), (5, i64 ((0 : Nat) : Int))]) M e (fr O) M' ∧ Ext M M' ∧ MemOk M' ∧ ((e = .exit 0 ∧ O = [] ∧ l = k) ∨ (e = .ret ∧ O = [(4, .bool false)] ∧ l ≠ k)) := by
  have hlen := hs.len
  have hlk : l.length = k.length := GRowsAt.len_eq hs2
  refine LoopR.forE (σ := Unit) (n := l.length) (Inv := fun i _ M1 => Ext M M1 ∧ MemOk M1 ∧ l.take i = k.take i)
    (F := fun i _ => [(0, .slice a l.length c), (1, .slice a2 l.length c2), (5, i64 ((i : Nat) : Int))])
    (Post := fun e O M' => Ext M M' ∧ MemOk M' ∧ ((e = .exit 0 ∧ O = [] ∧ l = k) ∨ (e = .ret ∧ O = [(4, .bool false)] ∧ l ≠ k))) ?_ ?_ l.length 0 (by omega) (s := ()) ⟨Ext.refl M, hM, rfl⟩
  · rintro i _ M1 hi ⟨X, hM1, hall⟩
    obtain ⟨bb, o, rfl, _⟩ := form_pos hs (by omega)
    obtain ⟨bb2, o2, rfl, _⟩ := form_pos hs2 (by omega)
    have ht : l[i]? = some l[i] := List.getElem?_eq_getElem hi
    have ht2 : k[i]? = some k[i] := List.getElem?_eq_getElem (by omega)
    have hld := ld_one (P := Try.prog) (ty := 3) hs ht rfl dC3
    have hld2 := ld_one (P := Try.prog) (ty := 3) hs2 ht2 rfl dC3
    by_cases hf : l[i] = k[i]
    · obtain ⟨T1, h1, h2⟩ := r12n bb o l.length c bb2 o2 c2 i l[i] k[i] (M := M1) X (decide_eq_true (by omega)) (by simp [hf]) hld hld2
      rw [wrap_succ (by omega)] at h2
      refine .inl ⟨(), T1, M1, h1, h2, X, hM1, ?_⟩
      rw [List.take_succ_eq_append_getElem hi, List.take_succ_eq_append_getElem (by omega), hall, hf]
    · obtain ⟨T1, h1, h2⟩ := r12r bb o l.length c bb2 o2 c2 i l[i] k[i] (M := M1) X (decide_eq_true (by omega)) (by simp [hf]) hld hld2
      refine .inr ⟨_, [(4, .bool false)], T1, M1, h1, by simp, h2, X, hM1, .inr ⟨rfl, rfl, fun e => hf ?_⟩⟩
      subst e; rfl
  · rintro _ M1 ⟨X, hM1, hall⟩
    obtain ⟨T1, h1, h2⟩ := r12x a l.length c l.length (.slice a2 l.length c2) (M := M1) hs.ln (decide_eq_false (by omega))
    refine ⟨_, [], T1, M1, h1, by simp, h2, X, hM1, .inl ⟨rfl, rfl, ?_⟩⟩
    rw [List.take_length, hlk, List.take_length] at hall
    exact hall
theorem loop12_t {a a2 : Option Addr} {c c2 : Nat} {l k : List Int} {M : Mem} (hM : MemOk M) (hs : pInts l (.slice a l.length c) M) (hs2 : pInts k (.slice a2 l.length c2) M) (h : decide (l = k) = true) :
    ∃ M', LoopR Try.prog [] (q20.loopAt 0) Try.f20.ntmps (fr [(0, .slice a l.length c), (1, .slice a2 l.length c2), (5, i64 ((0 : Nat) : Int))]) M (.exit 0) (fr []) M' ∧ Ext M M' ∧ MemOk M' := by
  obtain ⟨e, O, M', h1, h2, h3, h4 | h4⟩ := loop12 hM hs hs2
  · obtain ⟨rfl, rfl, _⟩ := h4; exact ⟨M', h1, h2, h3⟩
  · exact absurd (of_decide_eq_true h) h4.2.2
theorem loop12_f {a a2 : Option Addr} {c c2 : Nat} {l k : List Int} {M : Mem} (hM : MemOk M) (hs : pInts l (.slice a l.length c) M) (hs2 : pInts k (.slice a2 l.length c2) M) (h : decide (l = k) = false) :
    ∃ M', LoopR Try.prog [] (q20.loopAt 0) Try.f20.ntmps (fr [(0, .slice a l.length c), (1, .slice a2 l.length c2), (5, i64 ((0 : Nat) : Int))]) M .ret (fr [(4, .bool false)]) M' ∧ Ext M M' ∧ MemOk M' := by
  obtain ⟨e, O, M', h1, h2, h3, h4 | h4⟩ := loop12 hM hs hs2
  · exact absurd h4.2.2 (of_decide_eq_false h)
  · obtain ⟨rfl, rfl, _⟩ := h4; exact ⟨M', h1, h2, h3⟩
theorem rK20 : Try.f20.results = #[.tmp 4] := by kernel_rfl
theorem w12Et_raw (a1 : Option Addr) (c1 : Nat) (a2 : Option Addr) (c2 : Nat) (l k : List Int) (M : Mem) (M1 : Mem) : oT Try.prog [0] 60 Try.f20 q20 [(.slice a1 l.length c1), (.slice a2 l.length c2)] M [ttT 5, ttT 9, ttF 12, .blk 15 [0, 1, 5] .normal (fr []) M1] 4 = some (.ret, some (.bool true), M1, [.ln a1 l.length c1, .ln a2 l.length c2, qF (!((((l.length : Nat) : Int)) == (((l.length : Nat) : Int)))), .blk 0 (.loop (q20.loopAt 0)) Try.f20.ntmps [0, 1, 5] [some (.slice a1 l.length c1), some (.slice a2 l.length c2), some (i64 0)] M .normal (fr []) M1]) := by kernel_rfl
theorem w12Et (a1 : Option Addr) (c1 : Nat) (a2 : Option Addr) (c2 : Nat) (l k : List Int) {M : Mem} (hM : MemOk M) (h1 : pInts l (.slice a1 l.length c1) M) (h2 : pInts k (.slice a2 l.length c2) M) (cc0 : (decide (l = k)) = true) : ∃ v_ M', Ev Try.prog [] 20 [(.slice a1 l.length c1), (.slice a2 l.length c2)] M v_ M' ∧ Ext M M' ∧ MemOk M' ∧ v_ = (.bool true) := by
  obtain ⟨M1, hL2, E3, hM4⟩ := loop12_t hM (AP.Ext (R := pInts) h1 (Ext.refl M)) (AP.Ext (R := pInts) h2 (Ext.refl M)) cc0
  have nx5 := E3.next
  have X6 := (Ext.refl M).trans E3
  have hraw := w12Et_raw a1 c1 a2 c2 l k M  M1
  exact ⟨(.bool true), M1, Ev.told_tmp noNumP mixedP Try.func20 q20_ok (by kernel_rfl) rK20 (fun B => specsB_ok (l := []) (fun p hp => by cases hp) (k := [(0, bone (.loop (q20.loopAt 0)) Try.f20.ntmps [0, 1, 5] [some (.slice a1 l.length c1), some (.slice a2 l.length c2), some (i64 0)] M .normal (fr []) M1)]) (fun p hp => by simp only [List.mem_cons, List.not_mem_nil, or_false] at hp; rcases hp with rfl <;> first | exact BlkOk.loop noNumP mixedP hL2)) (fun _ h => blksF_one h) hraw (hk (lN h1.ln) (hk (lN h2.ln) (hk (bF (by first | simp_all | (simp; omega))) (hk (q_blk rfl) hn)))), X6, hM4, rfl⟩
theorem w12Ef_raw (a1 : Option Addr) (c1 : Nat) (a2 : Option Addr) (c2 : Nat) (l k : List Int) (M : Mem) (M1 : Mem) : oT Try.prog [0] 60 Try.f20 q20 [(.slice a1 l.length c1), (.slice a2 l.length c2)] M [ttT 5, ttT 9, ttF 12, .blk 15 [0, 1, 5] .ret (fr [(4, (.bool false))]) M1] 4 = some (.ret, some (.bool false), M1, [.ln a1 l.length c1, .ln a2 l.length c2, qF (!((((l.length : Nat) : Int)) == (((l.length : Nat) : Int)))), .blk 0 (.loop (q20.loopAt 0)) Try.f20.ntmps [0, 1, 5] [some (.slice a1 l.length c1), some (.slice a2 l.length c2), some (i64 0)] M .ret (fr [(4, (.bool false))]) M1]) := by kernel_rfl
theorem w12Ef (a1 : Option Addr) (c1 : Nat) (a2 : Option Addr) (c2 : Nat) (l k : List Int) {M : Mem} (hM : MemOk M) (h1 : pInts l (.slice a1 l.length c1) M) (h2 : pInts k (.slice a2 l.length c2) M) (cc0 : (decide (l = k)) = false) : ∃ v_ M', Ev Try.prog [] 20 [(.slice a1 l.length c1), (.slice a2 l.length c2)] M v_ M' ∧ Ext M M' ∧ MemOk M' ∧ v_ = (.bool false) := by
  obtain ⟨M1, hL2, E3, hM4⟩ := loop12_f hM (AP.Ext (R := pInts) h1 (Ext.refl M)) (AP.Ext (R := pInts) h2 (Ext.refl M)) cc0
  have nx5 := E3.next
  have X6 := (Ext.refl M).trans E3
  have hraw := w12Ef_raw a1 c1 a2 c2 l k M  M1
  exact ⟨(.bool false), M1, Ev.told_tmp noNumP mixedP Try.func20 q20_ok (by kernel_rfl) rK20 (fun B => specsB_ok (l := []) (fun p hp => by cases hp) (k := [(0, bone (.loop (q20.loopAt 0)) Try.f20.ntmps [0, 1, 5] [some (.slice a1 l.length c1), some (.slice a2 l.length c2), some (i64 0)] M .ret (fr [(4, (.bool false))]) M1)]) (fun p hp => by simp only [List.mem_cons, List.not_mem_nil, or_false] at hp; rcases hp with rfl <;> first | exact BlkOk.loop noNumP mixedP hL2)) (fun _ h => blksF_one h) hraw (hk (lN h1.ln) (hk (lN h2.ln) (hk (bF (by first | simp_all | (simp; omega))) (hk (q_blk rfl) hn)))), X6, hM4, rfl⟩
theorem w12D_raw (a1 : Option Addr) (c1 : Nat) (a2 : Option Addr) (c2 : Nat) (l k : List Int) (M : Mem)  : oT Try.prog [] 51 Try.f20 q20 [(.slice a1 l.length c1), (.slice a2 k.length c2)] M [ttT 5, ttT 9, ttT 12] 4 = some (.ret, some (.bool false), M, [.ln a1 l.length c1, .ln a2 k.length c2, qT (!((((l.length : Nat) : Int)) == (((k.length : Nat) : Int))))]) := by kernel_rfl
theorem w12D (a1 : Option Addr) (c1 : Nat) (a2 : Option Addr) (c2 : Nat) (l k : List Int) {M : Mem} (hM : MemOk M) (h1 : pInts l (.slice a1 l.length c1) M) (h2 : pInts k (.slice a2 k.length c2) M) (cc0 : ((((l.length : Nat) : Int)) == (((k.length : Nat) : Int))) = false) : ∃ v_ M', Ev Try.prog [] 20 [(.slice a1 l.length c1), (.slice a2 k.length c2)] M v_ M' ∧ Ext M M' ∧ MemOk M' ∧ v_ = (.bool false) := by
  have hraw := w12D_raw a1 c1 a2 c2 l k M  
  exact ⟨(.bool false), M, Ev.told_tmp noNumP mixedP Try.func20 q20_ok (by kernel_rfl) rK20 (specs_none Try.prog) (fun _ _ => rfl) hraw (hk (lN h1.ln) (hk (lN h2.ln) (hk (bT (by rw [cc0]; rfl)) hn))), (Ext.refl M), hM, rfl⟩
abbrev Q20 := FC (as2 pInts pInts) (plain pB) (fun x => decide (x.1 = x.2))
theorem con20 {x : List Int × List Int} {lv : List Value} {M : Mem} (hM : MemOk M) (h : (as2 pInts pInts) x lv M) : ∃ v M', Con Try.prog [] 20 Q20 lv M v M' := by
  refine FC.con h ?_
  obtain ⟨g0, g1, rfl, k0, k1⟩ := h
  obtain ⟨l, k⟩ := x
  obtain ⟨a1, c1, rfl⟩ := GRowsAt.form k0
  obtain ⟨a2, c2, rfl⟩ := GRowsAt.form k1
  simp only at k0 k1 ⊢
  by_cases hl : k.length = l.length
  · rw [hl] at k1 ⊢
    cases hd : decide (l = k) with
    | true =>
      obtain ⟨v, M', h1, h2, _, h3⟩ := w12Et a1 c1 a2 c2 l k hM k0 k1 hd
      exact ⟨v, M', h1, h2, h3⟩
    | false =>
      obtain ⟨v, M', h1, h2, _, h3⟩ := w12Ef a1 c1 a2 c2 l k hM k0 k1 hd
      exact ⟨v, M', h1, h2, h3⟩
  · obtain ⟨v, M', h1, h2, _, h3⟩ := w12D a1 c1 a2 c2 l k hM k0 k1 (by simp; omega)
    rw [show decide (l = k) = false from decide_eq_false fun e => hl (by rw [e])]
    exact ⟨v, M', h1, h2, h3⟩
end Go.Proofs.Ytipnhelkganmdaa

set_option linter.unusedVariables false
set_option linter.unusedSimpArgs false
open Go Go.Am Go.Proofs
namespace Go.Proofs.Ytipnhelkganmdaa
set_option maxRecDepth 100000
set_option linter.unusedVariables false
set_option linter.unusedSimpArgs false
end Go.Proofs.Ytipnhelkganmdaa

set_option linter.unusedVariables false
set_option linter.unusedSimpArgs false
open Go Go.Am Go.Proofs
namespace Go.Proofs.Ytipnhelkganmdaa
set_option maxRecDepth 100000
set_option linter.unusedVariables false
set_option linter.unusedSimpArgs false
end Go.Proofs.Ytipnhelkganmdaa

set_option linter.unusedVariables false
set_option linter.unusedSimpArgs false
open Go Go.Am Go.Proofs
namespace Go.Proofs.Ytipnhelkganmdaa
set_option maxRecDepth 100000
set_option linter.unusedVariables false
set_option linter.unusedSimpArgs false
end Go.Proofs.Ytipnhelkganmdaa
