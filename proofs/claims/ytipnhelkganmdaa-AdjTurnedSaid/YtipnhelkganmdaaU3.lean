/-
  Package adj: each of its laws for every argument; no conditions. The last text states which.
-/
import Derived.Test.YtipnhelkganmdaaGU1
import Derived.Test.YtipnhelkganmdaaGAmTn
open Go Go.Am Go.Proofs
namespace Go.Proofs.Ytipnhelkganmdaa
set_option maxRecDepth 100000
set_option linter.unusedVariables false
set_option linter.unusedSimpArgs false
theorem dC4 : (Try.prog.underlying 4).map isAggD = some false := by kernel_rfl
theorem dS4 : (Try.prog.info? 4).map (·.size) = some 1 := by kernel_rfl
abbrev C32 (k : Nat) := ∀ {x : AdjM × Int × Int × Nat × List Bool} {lv : List Value} {M : Mem}, MemOk M → asSp 48 x lv M → x.2.2.2.2.count false < k → ∃ v M', TC Try.prog [] 32 (QSp 48) lv M v M'
theorem r32n_raw (ab b c eb eo k ce i sb so ks cs_ tb to kt ct kk : Nat) (ms x z y : Int) (vo vi : Value) (m : List Bool) (ad : AdjM) (M : Mem)  : oR Try.prog [] 60 Try.f32 (q32.loopAt 0) [(0, (pt ab 0)), (2, (i64 ms)), (3, (sli b 0 m.length c)), (33, (sli eb eo k ce)), (34, (i64 (((k : Nat) : Int)))), (35, (i64 (((i : Nat) : Int))))] M [ttT 2, ttT 4, ttL 6 (i64 x), ttL 16 (sli sb so ks cs_), ttT 20, ttL 22 (i64 z), ttF 29] [0, 2, 3, 33, 34, 35] = some (.normal, [some (pt ab 0), some (i64 ms), some (sli b 0 m.length c), some (sli eb eo k ce), some (i64 (((k : Nat) : Int))), some (i64 (IntKind.wrap .i64 ((((i : Nat) : Int)) + (1 : Int))))], M, [qT (decide ((((i : Nat) : Int)) < (((k : Nat) : Int)))), .q (.inb (((i : Nat) : Int)) k) (ansB true), qL 3 eb (eo + (((i : Nat) : Int) : Int).toNat * 1) M (i64 x), qL 22 ab 3 M (sli sb so ks cs_), .q (.inb x ks) (ansB true), qL 3 sb (so + (x : Int).toNat * 1) M (i64 z), qF (!((andI z ms) == (0 : Int)))]) := by kernel_rfl
theorem r32n (ab b c eb eo k ce i sb so ks cs_ tb to kt ct kk : Nat) (ms x z y : Int) (vo vi : Value) (m : List Bool) (ad : AdjM) {M : Mem} {M0 : Mem} (X0 : Ext M0 M) (gab : M.get ab = some ⟨[vo, vi, sli tb to kt ct, sli sb so ks cs_], 48, 4, 0, true⟩) (gb : M.get b = some ⟨m.map Value.bool, 4, 1, 0, true⟩) (cc0 : (decide ((((i : Nat) : Int)) < (((k : Nat) : Int)))) = true) (cc1 : ((andI z ms) == (0 : Int)) = true) (hld0 : aload Try.prog 3 ⟨eb, eo + (((i : Nat) : Int) : Int).toNat * 1, none⟩ M0 = some (i64 x)) (hi1 : 0 ≤ (x : Int) ∧ (x : Int) < ks) (hld2 : aload Try.prog 3 ⟨sb, so + (x : Int).toNat * 1, none⟩ M0 = some (i64 z)) : ∃ T1, Rd Try.prog [] (q32.loopAt 0) Try.f32.ntmps (fr [(0, (pt ab 0)), (2, (i64 ms)), (3, (sli b 0 m.length c)), (33, (sli eb eo k ce)), (34, (i64 (((k : Nat) : Int)))), (35, (i64 (((i : Nat) : Int))))]) M .normal T1 M ∧ [0, 2, 3, 33, 34, 35].map T1.get = [some (pt ab 0), some (i64 ms), some (sli b 0 m.length c), some (sli eb eo k ce), some (i64 (((k : Nat) : Int))), some (i64 (IntKind.wrap .i64 ((((i : Nat) : Int)) + (1 : Int))))] := by
  have hraw := r32n_raw ab b c eb eo k ce i sb so ks cs_ tb to kt ct kk ms x z y vo vi m ad M  
  obtain ⟨T1, h1, h2⟩ := Rd.told noNumP mixedP (specs_none Try.prog) (fun _ _ => rfl) hraw (hk (bT cc0) (hk (q_inb (by omega) (by simp at cc0; omega)) (hk (q_ld (aload_ext X0 hld0)) (hk (lC dC22 gab rfl) (hk (q_inb hi1.1 hi1.2) (hk (q_ld (aload_ext X0 hld2)) (hk (bF (by rw [cc1]; rfl)) hn)))))))
  exact ⟨T1, h1, h2⟩
theorem hS32_32 (B : Bd) : ∀ p ∈ ([(32, pick (TC Try.prog [] 32 (QSp 48)))] : List (FuncId × (List Value → Mem → Option (Value × Mem)))), SpecOk Try.prog [] B p.1 p.2 := (fun p hp => by simp only [List.mem_cons, List.not_mem_nil, or_false] at hp; rcases hp with rfl <;> first | exact Con.ok _ | exact TC.ok _)
theorem r32c_raw (ab b c eb eo k ce i sb so ks cs_ tb to kt ct kk : Nat) (ms x z y : Int) (vo vi : Value) (m : List Bool) (ad : AdjM) (M : Mem) (t1 : Bool) (w2 : Value) (m3 : List Bool) (M4 : Mem) : oR Try.prog [] 60 Try.f32 (q32.loopAt 0) [(0, (pt ab 0)), (2, (i64 ms)), (3, (sli b 0 m.length c)), (33, (sli eb eo k ce)), (34, (i64 (((k : Nat) : Int)))), (35, (i64 (((i : Nat) : Int))))] M [ttT 2, ttT 4, ttL 6 (i64 x), ttL 16 (sli sb so ks cs_), ttT 20, ttL 22 (i64 z), ttT 29, ttL 39 (sli tb to kt ct), ttT 43, ttL 45 (i64 y), .at 51 ((bif t1 then 1 else 2), .val w2, M4)] [0, 2, 3, 33, 34, 35] = some (.normal, [some (pt ab 0), some (i64 ms), some (sli b 0 m.length c), some (sli eb eo k ce), some (i64 (((k : Nat) : Int))), some (i64 (IntKind.wrap .i64 ((((i : Nat) : Int)) + (1 : Int))))], M4, [qT (decide ((((i : Nat) : Int)) < (((k : Nat) : Int)))), .q (.inb (((i : Nat) : Int)) k) (ansB true), qL 3 eb (eo + (((i : Nat) : Int) : Int).toNat * 1) M (i64 x), qL 22 ab 3 M (sli sb so ks cs_), .q (.inb x ks) (ansB true), qL 3 sb (so + (x : Int).toNat * 1) M (i64 z), qT (!((andI z ms) == (0 : Int))), qL 22 ab 2 M (sli tb to kt ct), .q (.inb x kt) (ansB true), qL 3 tb (to + (x : Int).toNat * 1) M (i64 y), .cl 32 [(pt ab 0), (i64 y), (i64 ms), (sli b 0 m.length c)] M ((bif t1 then 1 else 2), .val w2, M4)]) := by cases t1 <;> kernel_rfl
theorem r32c (ab b c eb eo k ce i sb so ks cs_ tb to kt ct kk : Nat) (ms x z y : Int) (vo vi : Value) (m : List Bool) (ad : AdjM) {M M0 : Mem} (hM : MemOk M) (X0 : Ext M0 M) (gab : M.get ab = some ⟨[vo, vi, sli tb to kt ct, sli sb so ks cs_], 48, 4, 0, true⟩) (gb : M.get b = some ⟨m.map Value.bool, 4, 1, 0, true⟩) (nb : M0.next ≤ b) (dabb : ab ≠ b) (hadj : pAdj 48 ad (pt ab 0) M0) (hok : okR ad) (hml : m.length = ad.out.length) (hC : C32 kk) (hcnt : m.count false < kk) (cc0 : (decide ((((i : Nat) : Int)) < (((k : Nat) : Int)))) = true) (cc1 : ((andI z ms) == (0 : Int)) = false) (hld0 : aload Try.prog 3 ⟨eb, eo + (((i : Nat) : Int) : Int).toNat * 1, none⟩ M0 = some (i64 x)) (hi1 : 0 ≤ (x : Int) ∧ (x : Int) < ks) (hld2 : aload Try.prog 3 ⟨sb, so + (x : Int).toNat * 1, none⟩ M0 = some (i64 z)) (hi3 : 0 ≤ (x : Int) ∧ (x : Int) < kt) (hld4 : aload Try.prog 3 ⟨tb, to + (x : Int).toNat * 1, none⟩ M0 = some (i64 y)) : ∃ T1 M' m3, Rd Try.prog [] (q32.loopAt 0) Try.f32.ntmps (fr [(0, (pt ab 0)), (2, (i64 ms)), (3, (sli b 0 m.length c)), (33, (sli eb eo k ce)), (34, (i64 (((k : Nat) : Int)))), (35, (i64 (((i : Nat) : Int))))]) M .normal T1 M' ∧ [0, 2, 3, 33, 34, 35].map T1.get = [some (pt ab 0), some (i64 ms), some (sli b 0 m.length c), some (sli eb eo k ce), some (i64 (((k : Nat) : Int))), some (i64 (IntKind.wrap .i64 ((((i : Nat) : Int)) + (1 : Int))))] ∧ Ext M0 M' ∧ MemOk M' ∧ M'.get b = some ⟨(m3.map Value.bool), 4, 1, 0, true⟩ ∧ (∀ id k, M.get id = some k → id ≠ b → M'.get id = some k) ∧ Spr ad ms y m m3 := by
  obtain ⟨t1, w2, m3, M4, hc5, X6, hM7, nx8, g9, kp10, sp11⟩ := call_sp (P := Try.prog) (f := 32) (x := (ad, y, ms, b, m)) (l := [(pt ab 0), (i64 y), (i64 ms), (sli b 0 m.length c)]) hM X0 nb (⟨_, _, rfl, AP.ext (R := pAdj 48) (Ext.below X0 nb (Nat.le_of_lt (Mem.lt_of_get gb))) hadj, gb, hok, hml⟩) (hC (MemOk.log hM) (asSp.log (x := (ad, y, ms, b, m)) (⟨_, _, rfl, AP.ext (R := pAdj 48) (Ext.below X0 nb (Nat.le_of_lt (Mem.lt_of_get gb))) hadj, gb, hok, hml⟩)) hcnt)
  have g12 := kp10 _ _ gab dabb
  have hraw := r32c_raw ab b c eb eo k ce i sb so ks cs_ tb to kt ct kk ms x z y vo vi m ad M  t1 w2 m3 M4
  have hkp : ∀ id k, M.get id = some k → id ≠ b → M4.get id = some k := fun id k g h_b => by
    have g0 := Mem.lt_of_get g
    have g := kp10 id k g h_b
    exact g
  obtain ⟨T1, h1, h2⟩ := Rd.told noNumP mixedP (fun B => specsB_ok (k := []) (hS32_32 B) (fun p hp => by cases hp)) (fun _ _ => rfl) hraw (hk (bT cc0) (hk (q_inb (by omega) (by simp at cc0; omega)) (hk (q_ld (aload_ext X0 hld0)) (hk (lC dC22 gab rfl) (hk (q_inb hi1.1 hi1.2) (hk (q_ld (aload_ext X0 hld2)) (hk (bT (by rw [cc1]; rfl)) (hk (lC dC22 gab rfl) (hk (q_inb hi3.1 hi3.2) (hk (q_ld (aload_ext X0 hld4)) (hk (hc5 _ rfl) hn)))))))))))
  exact ⟨T1, M4, m3, h1, h2, X6, hM7, g9, hkp, sp11⟩
theorem r32x_raw (ab b c k ce i tb to kt ct sb so ks cs_ : Nat) (ae : Option Addr) (ms : Int) (vo vi : Value) (m : List Bool) (M : Mem)  : oR Try.prog [] 60 Try.f32 (q32.loopAt 0) [(0, (pt ab 0)), (2, (i64 ms)), (3, (sli b 0 m.length c)), (33, (.slice ae k ce)), (34, (i64 (((k : Nat) : Int)))), (35, (i64 (((i : Nat) : Int))))] M [ttF 2] [] = some ((.exit 0), [], M, [qF (decide ((((i : Nat) : Int)) < (((k : Nat) : Int))))]) := by kernel_rfl
theorem r32x (ab b c k ce i tb to kt ct sb so ks cs_ : Nat) (ae : Option Addr) (ms : Int) (vo vi : Value) (m : List Bool) {M : Mem} (cc0 : (decide ((((i : Nat) : Int)) < (((k : Nat) : Int)))) = false) : ∃ T1, Rd Try.prog [] (q32.loopAt 0) Try.f32.ntmps (fr [(0, (pt ab 0)), (2, (i64 ms)), (3, (sli b 0 m.length c)), (33, (.slice ae k ce)), (34, (i64 (((k : Nat) : Int)))), (35, (i64 (((i : Nat) : Int))))]) M (.exit 0) T1 M ∧ [].map T1.get = [] := by
  have hraw := r32x_raw ab b c k ce i tb to kt ct sb so ks cs_ ae ms vo vi m M  
  obtain ⟨T1, h1, h2⟩ := Rd.told noNumP mixedP (specs_none Try.prog) (fun _ _ => rfl) hraw (hk (bF cc0) hn)
  exact ⟨T1, h1, h2⟩
theorem loop32 {ab b c ce cs_ ct kk : Nat} {ae as_ at_ : Option Addr} {v ms : Int} {vo vi : Value} {m0 : List Bool} {ad : AdjM} {M0 M : Mem} (hM : MemOk M) (X : Ext M0 M) (gab : M.get ab = some ⟨[vo, vi, .slice at_ ad.to.length ct, .slice as_ ad.set.length cs_], 48, 4, 0, true⟩) (gb : M.get b = some ⟨m0.map Value.bool, 4, 1, 0, true⟩)
    (nb : M0.next ≤ b) (dabb : ab ≠ b) (hadj : pAdj 48 ad (pt ab 0) M0) (hok : okR ad) (hml : m0.length = ad.out.length) (hC : C32 kk) (hcnt : m0.count false < kk) (hrow : pInts (rowV ad.out v) (.slice ae (rowV ad.out v).length ce) M0) (hset : pInts ad.set (.slice as_ ad.set.length cs_) M0) (hto : pInts ad.to (.slice at_ ad.to.length ct) M0) :
    ∃ m' M', LoopR Try.prog [] (q32.loopAt 0) Try.f32.ntmps (fr [(0, pt ab 0), (2, i64 ms), (3, sli b 0 m0.length c), (33, .slice ae (rowV ad.out v).length ce), (34, i64 (((rowV ad.out v).length : Nat) : Int)), (35, i64 ((0 : Nat) : Int))]) M (.exit 0) (fr []) M' ∧ Ext M0 M' ∧ MemOk M' ∧ M'.get b = some ⟨m'.map Value.bool, 4, 1, 0, true⟩ ∧ (∀ id k, M.get id = some k → id ≠ b → M'.get id = some k) ∧ SprI ad ms v (rowV ad.out v) m0 (rowV ad.out v).length m' := by
  have hrl : (rowV ad.out v).length ≤ 400 := rowV_ok (p := fun r => r.length ≤ 400) (fun r hr => (hok.1.1 r hr).1) (by decide) v
  have hrb : ∀ j ∈ rowV ad.out v, 0 ≤ j ∧ j < (ad.set.length : Int) := rowV_ok (p := fun r => ∀ j ∈ r, 0 ≤ j ∧ j < (ad.set.length : Int)) (fun r hr => (hok.1.1 r hr).2) (fun j hj => by cases hj) v
  obtain ⟨m', M', h1, h2, h3, h4, h5, h6⟩ := LoopR.for (P := Try.prog) (GL := []) (b := q32.loopAt 0) (nt := Try.f32.ntmps) (id := 0) (σ := List Bool) (n := (rowV ad.out v).length)
    (Inv := fun i m M1 => Ext M0 M1 ∧ MemOk M1 ∧ M1.get b = some ⟨m.map Value.bool, 4, 1, 0, true⟩ ∧ (∀ id k, M.get id = some k → id ≠ b → M1.get id = some k) ∧ SprI ad ms v (rowV ad.out v) m0 i m)
    (F := fun i m => [(0, pt ab 0), (2, i64 ms), (3, sli b 0 m.length c), (33, .slice ae (rowV ad.out v).length ce), (34, i64 (((rowV ad.out v).length : Nat) : Int)), (35, i64 ((i : Nat) : Int))])
    (O := fun _ => [])
    (by
      rintro i m M1 hi ⟨X1, hM1, g1, hkp, hI⟩
      obtain ⟨eb, eo, rfl, _⟩ := form_pos hrow (by omega)
      have ht : (rowV ad.out v)[i]? = some (rowV ad.out v)[i] := List.getElem?_eq_getElem hi
      have hb := hrb _ (List.getElem_mem hi)
      have hb2 : (rowV ad.out v)[i] < (ad.to.length : Int) := by rw [hok.2]; exact hb.2
      obtain ⟨sb, so, rfl, _⟩ := form_pos hset (by omega)
      obtain ⟨tb, to, rfl, _⟩ := form_pos hto (by omega)
      have hz : ad.set[((rowV ad.out v)[i]).toNat]? = some ad.set[((rowV ad.out v)[i]).toNat] := List.getElem?_eq_getElem (by omega)
      have hy : ad.to[((rowV ad.out v)[i]).toNat]? = some ad.to[((rowV ad.out v)[i]).toNat] := List.getElem?_eq_getElem (by omega)
      have ga := hkp _ _ gab dabb
      have l1 := ld_one (P := Try.prog) (ty := 3) hrow ht rfl dC3
      have l2 := ld_one (P := Try.prog) (ty := 3) hset hz rfl dC3
      have l3 := ld_one (P := Try.prog) (ty := 3) hto hy rfl dC3
      cases hq : (andI (ad.set[((rowV ad.out v)[i]).toNat]) ms == (0 : Int)) with
      | true =>
        obtain ⟨T1, h1, h2⟩ := r32n ab b c eb eo (rowV ad.out v).length ce i sb so ad.set.length cs_ tb to ad.to.length ct kk ms (rowV ad.out v)[i] (ad.set[((rowV ad.out v)[i]).toNat]) (ad.to[((rowV ad.out v)[i]).toNat]) vo vi m ad (M := M1) X1 ga g1 (decide_eq_true (by omega)) hq l1 hb l2
        rw [wrap_succ (by omega)] at h2
        refine ⟨m, T1, M1, h1, h2, X1, hM1, g1, hkp, hI.skip ht ?_⟩
        rw [hz]; exact eq_of_beq hq
      | false =>
        obtain ⟨T1, M2, m2, h1, h2, h3, h4, h5, h6, h7⟩ := r32c ab b c eb eo (rowV ad.out v).length ce i sb so ad.set.length cs_ tb to ad.to.length ct kk ms (rowV ad.out v)[i] (ad.set[((rowV ad.out v)[i]).toNat]) (ad.to[((rowV ad.out v)[i]).toNat]) vo vi m ad hM1 X1 ga g1 nb dabb hadj hok (hI.len.trans hml) hC (Nat.lt_of_le_of_lt (cnt_up hI.len hI.up) hcnt) (decide_eq_true (by omega)) hq l1 hb l2 ⟨hb.1, hb2⟩ l3
        rw [wrap_succ (by omega)] at h2
        refine ⟨m2, T1, M2, h1, by rw [h7.len]; exact h2, h3, h4, h5, fun id k hg hid => h6 id k (hkp id k hg hid) hid, hI.call ht ?_ ?_⟩
        · rw [hz]; exact fun e => by rw [Option.getD_some] at e; rw [e] at hq; cases hq
        · rw [hy]; exact h7)
    (by
      rintro m M1 ⟨X1, hM1, g1, hkp, hI⟩
      exact r32x ab b c (rowV ad.out v).length ce (rowV ad.out v).length 0 0 0 0 0 0 0 0 ae ms (.bool true) (.bool true) m (M := M1) (decide_eq_false (by omega)))
    (rowV ad.out v).length 0 (by omega) (s := m0) (M := M) ⟨X, hM, gb, fun _ _ hg _ => hg, .zero⟩
  exact ⟨m', M', h1, h2, h3, h4, h5, h6⟩
theorem rK32 : Try.f32.results = #[] := by kernel_rfl
theorem w32_0_raw (ab b c Eo co ct cs_ ce kk : Nat) (at_ as_ ae : Option Addr) (v ms : Int) (vi : Value) (m : List Bool) (ad : AdjM) (M : Mem)  : oU Try.prog [] 60 Try.f32 q32 [(pt ab 0), (i64 v), (i64 ms), (sli b 0 m.length c)] M [ttT 6, ttT 8, ttT 10, ttT 12, ttT 15] = some (.ret, M, [qT (decide (v < (0 : Int))), qT (decide (v < (0 : Int))), qT (decide (v < (0 : Int))), qT (decide (v < (0 : Int))), qT (decide (v < (0 : Int)))]) := by kernel_rfl
theorem w32_0 (ab b c Eo co ct cs_ ce kk : Nat) (at_ as_ ae : Option Addr) (v ms : Int) (vi : Value) (m : List Bool) (ad : AdjM) {M M0 : Mem} (hM : MemOk M) (X0 : Ext M0 M) (gab : M.get ab = some ⟨[sli Eo 0 ad.out.length co, vi, .slice at_ ad.to.length ct, .slice as_ ad.set.length cs_], 48, 4, 0, true⟩) (gb : M.get b = some ⟨m.map Value.bool, 4, 1, 0, true⟩) (cc0 : (decide (v < (0 : Int))) = true) : ∃ M', Ev Try.prog [] 32 [(pt ab 0), (i64 v), (i64 ms), (sli b 0 m.length c)] M (.tuple #[]) M' ∧ Ext M0 M' ∧ MemOk M' ∧ M'.get b = some ⟨(m.map Value.bool), 4, 1, 0, true⟩ ∧ (∀ id k, M.get id = some k → id ≠ b → M'.get id = some k) := by
  have hraw := w32_0_raw ab b c Eo co ct cs_ ce kk at_ as_ ae v ms vi m ad M  
  have hkp : ∀ id k, M.get id = some k → id ≠ b → M.get id = some k := fun id k g h_b => by
    have g0 := Mem.lt_of_get g
    exact g
  exact ⟨M, Ev.told_none noNumP mixedP Try.func32 q32_ok (by kernel_rfl) rK32 (specs_none Try.prog) (fun _ _ => rfl) hraw (.inl rfl) (hk (bT cc0) (hk (bT cc0) (hk (bT cc0) (hk (bT cc0) (hk (bT cc0) hn))))), X0, hM, gb, hkp⟩
theorem w32_1_raw (ab b c Eo co ct cs_ ce kk : Nat) (at_ as_ ae : Option Addr) (v ms : Int) (vi : Value) (m : List Bool) (ad : AdjM) (M : Mem)  : oU Try.prog [] 60 Try.f32 q32 [(pt ab 0), (i64 v), (i64 ms), (sli b 0 m.length c)] M [ttF 6, ttF 8, ttF 10, ttF 12, ttF 15, ttT 18, ttT 20, ttT 22, ttT 24, ttT 27] = some (.ret, M, [qF (decide (v < (0 : Int))), qF (decide (v < (0 : Int))), qF (decide (v < (0 : Int))), qF (decide (v < (0 : Int))), qF (decide (v < (0 : Int))), qT (decide (v ≥ (((m.length : Nat) : Int)))), qT (decide (v ≥ (((m.length : Nat) : Int)))), qT (decide (v ≥ (((m.length : Nat) : Int)))), qT (decide (v ≥ (((m.length : Nat) : Int)))), qT (decide (v ≥ (((m.length : Nat) : Int))))]) := by kernel_rfl
theorem w32_1 (ab b c Eo co ct cs_ ce kk : Nat) (at_ as_ ae : Option Addr) (v ms : Int) (vi : Value) (m : List Bool) (ad : AdjM) {M M0 : Mem} (hM : MemOk M) (X0 : Ext M0 M) (gab : M.get ab = some ⟨[sli Eo 0 ad.out.length co, vi, .slice at_ ad.to.length ct, .slice as_ ad.set.length cs_], 48, 4, 0, true⟩) (gb : M.get b = some ⟨m.map Value.bool, 4, 1, 0, true⟩) (cc0 : (decide (v < (0 : Int))) = false) (cc1 : (decide (v ≥ (((m.length : Nat) : Int)))) = true) : ∃ M', Ev Try.prog [] 32 [(pt ab 0), (i64 v), (i64 ms), (sli b 0 m.length c)] M (.tuple #[]) M' ∧ Ext M0 M' ∧ MemOk M' ∧ M'.get b = some ⟨(m.map Value.bool), 4, 1, 0, true⟩ ∧ (∀ id k, M.get id = some k → id ≠ b → M'.get id = some k) := by
  have hraw := w32_1_raw ab b c Eo co ct cs_ ce kk at_ as_ ae v ms vi m ad M  
  have hkp : ∀ id k, M.get id = some k → id ≠ b → M.get id = some k := fun id k g h_b => by
    have g0 := Mem.lt_of_get g
    exact g
  exact ⟨M, Ev.told_none noNumP mixedP Try.func32 q32_ok (by kernel_rfl) rK32 (specs_none Try.prog) (fun _ _ => rfl) hraw (.inl rfl) (hk (bF cc0) (hk (bF cc0) (hk (bF cc0) (hk (bF cc0) (hk (bF cc0) (hk (bT cc1) (hk (bT cc1) (hk (bT cc1) (hk (bT cc1) (hk (bT cc1) hn)))))))))), X0, hM, gb, hkp⟩
theorem w32_2_raw (ab b c Eo co ct cs_ ce kk : Nat) (at_ as_ ae : Option Addr) (v ms : Int) (vi : Value) (m : List Bool) (ad : AdjM) (M : Mem) (z0 : Bool)  : oU Try.prog [] 60 Try.f32 q32 [(pt ab 0), (i64 v), (i64 ms), (sli b 0 m.length c)] M [ttF 6, ttF 8, ttF 10, ttF 12, ttF 15, ttF 18, ttF 20, ttF 22, ttT 23, ttF 24, ttL 25 (.bool z0), ttF 27, ttT 28] = some (.ret, M, [qF (decide (v < (0 : Int))), qF (decide (v < (0 : Int))), qF (decide (v < (0 : Int))), qF (decide (v < (0 : Int))), qF (decide (v < (0 : Int))), qF (decide (v ≥ (((m.length : Nat) : Int)))), qF (decide (v ≥ (((m.length : Nat) : Int)))), qF (decide (v ≥ (((m.length : Nat) : Int)))), .q (.inb v m.length) (ansB true), qF (decide (v ≥ (((m.length : Nat) : Int)))), qL 4 b (0 + (v : Int).toNat * 1) M (.bool z0), qF (decide (v ≥ (((m.length : Nat) : Int)))), qT z0]) := by kernel_rfl
theorem w32_2 (ab b c Eo co ct cs_ ce kk : Nat) (at_ as_ ae : Option Addr) (v ms : Int) (vi : Value) (m : List Bool) (ad : AdjM) (z0 : Bool) {M M0 : Mem} (hM : MemOk M) (X0 : Ext M0 M) (gab : M.get ab = some ⟨[sli Eo 0 ad.out.length co, vi, .slice at_ ad.to.length ct, .slice as_ ad.set.length cs_], 48, 4, 0, true⟩) (gb : M.get b = some ⟨m.map Value.bool, 4, 1, 0, true⟩) (cc0 : (decide (v < (0 : Int))) = false) (cc1 : (decide (v ≥ (((m.length : Nat) : Int)))) = false) (cc2 : (z0) = true) (hi0 : 0 ≤ (v : Int) ∧ (v : Int) < m.length) (hc1 : ((m.map Value.bool))[0 + (v : Int).toNat * 1]? = some (.bool z0)) : ∃ M', Ev Try.prog [] 32 [(pt ab 0), (i64 v), (i64 ms), (sli b 0 m.length c)] M (.tuple #[]) M' ∧ Ext M0 M' ∧ MemOk M' ∧ M'.get b = some ⟨(m.map Value.bool), 4, 1, 0, true⟩ ∧ (∀ id k, M.get id = some k → id ≠ b → M'.get id = some k) := by
  have hraw := w32_2_raw ab b c Eo co ct cs_ ce kk at_ as_ ae v ms vi m ad M z0 
  have hkp : ∀ id k, M.get id = some k → id ≠ b → M.get id = some k := fun id k g h_b => by
    have g0 := Mem.lt_of_get g
    exact g
  exact ⟨M, Ev.told_none noNumP mixedP Try.func32 q32_ok (by kernel_rfl) rK32 (specs_none Try.prog) (fun _ _ => rfl) hraw (.inl rfl) (hk (bF cc0) (hk (bF cc0) (hk (bF cc0) (hk (bF cc0) (hk (bF cc0) (hk (bF cc1) (hk (bF cc1) (hk (bF cc1) (hk (q_inb hi0.1 hi0.2) (hk (bF cc1) (hk (q_ld (aload_cell (a := ⟨b, 0 + (v : Int).toNat * 1, none⟩) dC4 gb hc1)) (hk (bF cc1) (hk (bT cc2) hn))))))))))))), X0, hM, gb, hkp⟩
theorem w32_3_raw (ab b c Eo co ct cs_ ce kk : Nat) (at_ as_ ae : Option Addr) (v ms : Int) (vi : Value) (m : List Bool) (ad : AdjM) (M : Mem) (z0 : Bool) (M1 : Mem) (M9 : Mem) : oU Try.prog [0] 60 Try.f32 q32 [(pt ab 0), (i64 v), (i64 ms), (sli b 0 m.length c)] M [ttF 6, ttF 8, ttF 10, ttF 12, ttF 15, ttF 18, ttF 20, ttF 22, ttT 23, ttF 24, ttL 25 (.bool z0), ttF 27, ttF 28, ttT 34, ttS 36 M1, ttL 44 (sli Eo 0 ad.out.length co), ttT 48, ttL 50 (.slice ae (rowV ad.out v).length ce), ttT 52, .blk 55 [0, 2, 3, 33, 34, 35] .normal (fr []) M9] = some (.normal, M9, [qF (decide (v < (0 : Int))), qF (decide (v < (0 : Int))), qF (decide (v < (0 : Int))), qF (decide (v < (0 : Int))), qF (decide (v < (0 : Int))), qF (decide (v ≥ (((m.length : Nat) : Int)))), qF (decide (v ≥ (((m.length : Nat) : Int)))), qF (decide (v ≥ (((m.length : Nat) : Int)))), .q (.inb v m.length) (ansB true), qF (decide (v ≥ (((m.length : Nat) : Int)))), qL 4 b (0 + (v : Int).toNat * 1) M (.bool z0), qF (decide (v ≥ (((m.length : Nat) : Int)))), qF z0, .q (.inb v m.length) (ansB true), qS 4 b (0 + (v : Int).toNat * 1) (.bool true) M M1, qL 46 ab 0 M1 (sli Eo 0 ad.out.length co), .q (.inb v ad.out.length) (ansB true), qL 22 Eo (0 + (v : Int).toNat * 1) M1 (.slice ae (rowV ad.out v).length ce), .ln ae (rowV ad.out v).length ce, .blk 0 (.loop (q32.loopAt 0)) Try.f32.ntmps [0, 2, 3, 33, 34, 35] [some (pt ab 0), some (i64 ms), some (sli b 0 m.length c), some (.slice ae (rowV ad.out v).length ce), some (i64 ((((rowV ad.out v).length : Nat) : Int))), some (i64 0)] M1 .normal (fr []) M9]) := by kernel_rfl
theorem w32_3 (ab b c Eo co ct cs_ ce kk : Nat) (at_ as_ ae : Option Addr) (v ms : Int) (vi : Value) (m : List Bool) (ad : AdjM) (z0 : Bool) {M M0 : Mem} (hM : MemOk M) (X0 : Ext M0 M) (gab : M.get ab = some ⟨[sli Eo 0 ad.out.length co, vi, .slice at_ ad.to.length ct, .slice as_ ad.set.length cs_], 48, 4, 0, true⟩) (gb : M.get b = some ⟨m.map Value.bool, 4, 1, 0, true⟩) (nb : M0.next ≤ b) (dabb : ab ≠ b) (hadj : pAdj 48 ad (pt ab 0) M0) (hok : okR ad) (hml : m.length = ad.out.length) (hC : C32 kk) (hcnt : (m.set v.toNat true).count false < kk) (hrow : pInts (rowV ad.out v) (.slice ae (rowV ad.out v).length ce) M0) (hset : pInts ad.set (.slice as_ ad.set.length cs_) M0) (hto : pInts ad.to (.slice at_ ad.to.length ct) M0) (hvr : 0 ≤ v ∧ v.toNat < m.length) (cc0 : (decide (v < (0 : Int))) = false) (cc1 : (decide (v ≥ (((m.length : Nat) : Int)))) = false) (cc2 : (z0) = false) (hi0 : 0 ≤ (v : Int) ∧ (v : Int) < m.length) (hc1 : ((m.map Value.bool))[0 + (v : Int).toNat * 1]? = some (.bool z0)) (hof2 : 0 + (v : Int).toNat * 1 + 1 ≤ ((m.map Value.bool)).length) (hi3 : 0 ≤ (v : Int) ∧ (v : Int) < ad.out.length) (hld4 : aload Try.prog 22 ⟨Eo, 0 + (v : Int).toNat * 1, none⟩ M0 = some (.slice ae (rowV ad.out v).length ce)) : ∃ m13 M', Ev Try.prog [] 32 [(pt ab 0), (i64 v), (i64 ms), (sli b 0 m.length c)] M (.tuple #[]) M' ∧ Ext M0 M' ∧ MemOk M' ∧ M'.get b = some ⟨(m13.map Value.bool), 4, 1, 0, true⟩ ∧ (∀ id k, M.get id = some k → id ≠ b → M'.get id = some k) ∧ SprI ad ms v (rowV ad.out v) (m.set v.toNat true) (rowV ad.out v).length m13 := by
  obtain ⟨M1, q2, g3, kp4, X5, hM6, nx7⟩ := store_t (o := 0 + (v : Int).toNat * 1) (v := (.bool true)) (new := splice (m.map Value.bool) (0 + (v : Int).toNat * 1) [(.bool true)]) X0 nb hM dS4 gb rfl rfl (Nat.zero_le _) hof2 rfl
  replace g3 : M1.get b = some ⟨splice (m.map Value.bool) (0 + (v : Int).toNat * 1) [(.bool true)], 4, 1, 0, true⟩ := g3
  have g8 := (kp4 _ dabb).trans gab
  rw [set_splice (by omega)] at g3
  obtain ⟨m13, M9, hL10, X11, hM12, g14, kp15, sp16⟩ := loop32 hM6 X5 g8 g3 nb dabb hadj hok (by rw [List.length_set]; exact hml) hC hcnt hrow hset hto
  rw [List.length_set] at hL10
  have hraw := w32_3_raw ab b c Eo co ct cs_ ce kk at_ as_ ae v ms vi m ad M z0 M1 M9
  have hkp : ∀ id k, M.get id = some k → id ≠ b → M9.get id = some k := fun id k g h_b => by
    have g0 := Mem.lt_of_get g
    have g := ((fun id h _ => kp4 id h) id h_b (Mem.lt_of_get g)).trans g
    have g := kp15 id k g h_b
    exact g
  exact ⟨m13, M9, Ev.told_none noNumP mixedP Try.func32 q32_ok (by kernel_rfl) rK32 (fun B => specsB_ok (l := []) (fun p hp => by cases hp) (k := [(0, bone (.loop (q32.loopAt 0)) Try.f32.ntmps [0, 2, 3, 33, 34, 35] [some (pt ab 0), some (i64 ms), some (sli b 0 m.length c), some (.slice ae (rowV ad.out v).length ce), some (i64 ((((rowV ad.out v).length : Nat) : Int))), some (i64 0)] M1 .normal (fr []) M9)]) (fun p hp => by simp only [List.mem_cons, List.not_mem_nil, or_false] at hp; rcases hp with rfl <;> first | exact BlkOk.loop noNumP mixedP hL10)) (fun _ h => blksF_one h) hraw (.inr rfl) (hk (bF cc0) (hk (bF cc0) (hk (bF cc0) (hk (bF cc0) (hk (bF cc0) (hk (bF cc1) (hk (bF cc1) (hk (bF cc1) (hk (q_inb hi0.1 hi0.2) (hk (bF cc1) (hk (q_ld (aload_cell (a := ⟨b, 0 + (v : Int).toNat * 1, none⟩) dC4 gb hc1)) (hk (bF cc1) (hk (bF cc2) (hk (q_inb hi0.1 hi0.2) (hk (q_st q2) (hk (lC dC46 g8 rfl) (hk (q_inb hi3.1 hi3.2) (hk (q_ld (aload_ext X5 hld4)) (hk (lN hrow.ln) (hk (q_blk rfl) hn)))))))))))))))))))), X11, hM12, g14, hkp, sp16⟩
theorem con32k (kk : Nat) : C32 kk := by
  induction kk with
  | zero => intro x lv M _ _ h; omega
  | succ kk ih =>
    intro x lv M hM h hlt
    obtain ⟨ad, v, ms, b, m⟩ := x
    have hA := h
    obtain ⟨p, c, rfl, hadj, gb, hok, hml⟩ := h
    simp only at hadj gb hml hlt hok ⊢
    have hbn : b ≤ M.next := Nat.le_of_lt (Mem.lt_of_get gb)
    have X0 := Ext.cut hbn
    obtain ⟨ab, vo, vi, vt, vs, rfl, gab, hout, hinn, hto, hset⟩ := id hadj
    have hab : ab < b := ((cut_get hbn).1 gab).1
    have gab' := X0.old gab
    obtain ⟨Eo, co, rfl⟩ := rowss_form hout
    obtain ⟨at_, ct, rfl⟩ := GRowsAt.form hto
    obtain ⟨as_, cs_, rfl⟩ := GRowsAt.form hset
    have dabb : ab ≠ b := by omega
    have fin : ∀ M' m', Ev Try.prog [] 32 [pt ab 0, i64 v, i64 ms, sli b 0 m.length c] M (.tuple #[]) M' → Ext (cut b M) M' → M'.get b = some ⟨m'.map Value.bool, 4, 1, 0, true⟩ → (∀ id k, M.get id = some k → id ≠ b → M'.get id = some k) → Spr ad ms v m m' → ∃ v' M', TC Try.prog [] 32 (QSp 48) [pt ab 0, i64 v, i64 ms, sli b 0 m.length c] M v' M' :=
      fun M' m' h1 h2 h3 h4 h5 => ⟨_, M', h1, (ad, v, ms, b, m), m', hA, h5, h3, h2, h4⟩
    by_cases h0 : v < 0
    · obtain ⟨M', h1, h2, h3, h4, h5⟩ := w32_0 ab b c Eo co ct cs_ 0 kk at_ as_ none v ms vi m ad hM X0 gab' gb (decide_eq_true h0)
      exact fin M' m h1 h2 h4 h5 (Spr.same fun hh => by omega)
    · by_cases h1 : v < (m.length : Int)
      · have hu : m[v.toNat]? = some m[v.toNat] := List.getElem?_eq_getElem (by omega)
        have hcell : (m.map Value.bool)[0 + v.toNat * 1]? = some (.bool m[v.toNat]) := by rw [Nat.zero_add, Nat.mul_one, List.getElem?_map, hu]; rfl
        have hvr : 0 ≤ v ∧ v < ((m.length : Nat) : Int) := ⟨by omega, h1⟩
        cases hz : m[v.toNat] with
        | true =>
          rw [hz] at hu hcell
          obtain ⟨M', h1, h2, h3, h4, h5⟩ := w32_2 ab b c Eo co ct cs_ 0 kk at_ as_ none v ms vi m ad true hM X0 gab' gb (decide_eq_false h0) (decide_eq_false (by omega)) rfl hvr hcell
          exact fin M' m h1 h2 h4 h5 (Spr.same fun _ _ => hu)
        | false =>
          rw [hz] at hu hcell
          have ho : ad.out[v.toNat]? = some ad.out[v.toNat] := List.getElem?_eq_getElem (by omega)
          have hrv : rowV ad.out v = ad.out[v.toNat] := by unfold rowV; rw [if_pos (by omega), ho]; rfl
          obtain ⟨ae, ce, l1, l2⟩ := ld_rowss (P := Try.prog) (ty := 22) hout ho dC22
          rw [← hrv] at l1 l2
          have hcs := cnt_set hu
          obtain ⟨m', M', h1, h2, h3, h4, h5, h6⟩ := w32_3 ab b c Eo co ct cs_ ce kk at_ as_ ae v ms vi m ad false hM X0 gab' gb (by show b ≤ b; omega) dabb hadj hok hml ih (by omega) l2 hset hto (by omega) (decide_eq_false h0) (decide_eq_false (by omega)) rfl hvr hcell (by simp; omega) (by omega) l1
          refine fin M' m' h1 h2 h4 h5 ?_
          have hv : ((v.toNat : Nat) : Int) = v := by omega
          rw [← hv] at h6 ⊢
          rw [Int.toNat_natCast] at h6
          exact h6.fin hu
      · obtain ⟨M', h1, h2, h3, h4, h5⟩ := w32_1 ab b c Eo co ct cs_ 0 kk at_ as_ none v ms vi m ad hM X0 gab' gb (decide_eq_false h0) (decide_eq_true (by omega))
        exact fin M' m h1 h2 h4 h5 (Spr.same fun _ hh => by omega)
theorem con32 {x : AdjM × Int × Int × Nat × List Bool} {lv : List Value} {M : Mem} (hM : MemOk M) (h : asSp 48 x lv M) : ∃ v M', TC Try.prog [] 32 (QSp 48) lv M v M' := con32k (x.2.2.2.2.count false + 1) hM h (Nat.lt_succ_self _)
end Go.Proofs.Ytipnhelkganmdaa
