/-
  Package hier: each of its laws for every argument; no conditions. The last text states which.
-/
import Derived.Test.YtdaglldahidmbaaGVP1
import Derived.Test.YtdaglldahidmbaaAmBk
open Go Go.Am Go.Proofs
namespace Go.Proofs.Ytdaglldahidmbaa
set_option maxRecDepth 100000
set_option linter.unusedVariables false
set_option linter.unusedSimpArgs false
theorem dS22 : (Try.prog.info? 22).map (·.size) = some 1 := by kernel_rfl
end Go.Proofs.Ytdaglldahidmbaa

open Go Go.Am Go.Proofs
namespace Go.Proofs.Ytdaglldahidmbaa
set_option maxRecDepth 100000
set_option linter.unusedVariables false
set_option linter.unusedSimpArgs false
end Go.Proofs.Ytdaglldahidmbaa

open Go Go.Am Go.Proofs
namespace Go.Proofs.Ytdaglldahidmbaa
set_option maxRecDepth 100000
set_option linter.unusedVariables false
set_option linter.unusedSimpArgs false
end Go.Proofs.Ytdaglldahidmbaa

open Go Go.Am Go.Proofs
namespace Go.Proofs.Ytdaglldahidmbaa
set_option maxRecDepth 100000
set_option linter.unusedVariables false
set_option linter.unusedSimpArgs false
end Go.Proofs.Ytdaglldahidmbaa

open Go Go.Am Go.Proofs
namespace Go.Proofs.Ytdaglldahidmbaa
set_option maxRecDepth 100000
set_option linter.unusedVariables false
set_option linter.unusedSimpArgs false
end Go.Proofs.Ytdaglldahidmbaa

open Go Go.Am Go.Proofs
namespace Go.Proofs.Ytdaglldahidmbaa
set_option maxRecDepth 100000
set_option linter.unusedVariables false
set_option linter.unusedSimpArgs false
end Go.Proofs.Ytdaglldahidmbaa

open Go Go.Am Go.Proofs
namespace Go.Proofs.Ytdaglldahidmbaa
set_option maxRecDepth 100000
set_option linter.unusedVariables false
set_option linter.unusedSimpArgs false
end Go.Proofs.Ytdaglldahidmbaa

open Go Go.Am Go.Proofs
namespace Go.Proofs.Ytdaglldahidmbaa
set_option maxRecDepth 100000
set_option linter.unusedVariables false
set_option linter.unusedSimpArgs false
theorem r30_raw (D E bb o m c i k q z : Nat) (cd ce : List Value) (M : Mem) (M1 : Mem) : oR Try.prog [] 60 Try.f74 (q74.loopAt 0) [(0, (sli D 0 k (k + 1))), (5, (sli E 0 m (m + 1))), (6, (i64 (((q : Nat) : Int)))), (12, (sli bb o m c)), (13, (i64 (((m : Nat) : Int)))), (14, (i64 (((i : Nat) : Int))))] M [ttT 2, ttT 6, ttL 8 (i64 (((z : Nat) : Int))), ttL 30 (sli D (0 + q) 0 (((q + z)) - q + 1)), ttT 32, ttS 34 M1] [0, 5, 6, 12, 13, 14] = some (.normal, [some (sli D 0 k (k + 1)), some (sli E 0 m (m + 1)), some (i64 (IntKind.wrap .i64 ((((q : Nat) : Int)) + (((z : Nat) : Int))))), some (sli bb o m c), some (i64 (((m : Nat) : Int))), some (i64 (IntKind.wrap .i64 ((((i : Nat) : Int)) + (1 : Int))))], M1, [qT (decide ((((i : Nat) : Int)) < (((m : Nat) : Int)))), .q (.inb (((i : Nat) : Int)) m) (ansB true), qL 3 bb (o + (((i : Nat) : Int) : Int).toNat * 1) M (i64 (((z : Nat) : Int))), .q (.slice 22 (sli D 0 k (k + 1)) (some (i64 (((q : Nat) : Int)))) (some (i64 (((q : Nat) : Int)))) (some (i64 (IntKind.wrap .i64 ((((q : Nat) : Int)) + (((z : Nat) : Int)))))) M) (1, .val (sli D (0 + q) 0 (((q + z)) - q + 1)), noMem), .q (.inb (((i : Nat) : Int)) m) (ansB true), qS 22 E (0 + (((i : Nat) : Int) : Int).toNat * 1) (sli D (0 + q) 0 (((q + z)) - q + 1)) M M1]) := by kernel_rfl
theorem r30 (D E bb o m c i k q z : Nat) (cd ce : List Value) {M M0 : Mem} (hM : MemOk M) (X0 : Ext M0 M) (hE : M0.next ≤ E) (gD : M.get D = some ⟨cd, 3, 1, 0, true⟩) (gE : M.get E = some ⟨ce, 22, 1, 0, true⟩) (dDE : D ≠ E) (cc0 : (decide ((((i : Nat) : Int)) < (((m : Nat) : Int)))) = true) (hld0 : aload Try.prog 3 ⟨bb, o + (((i : Nat) : Int) : Int).toNat * 1, none⟩ M0 = some (i64 (((z : Nat) : Int)))) (hs1 : q ≤ ((q + z)) ∧ ((q + z)) ≤ k) (he2 : (IntKind.wrap .i64 ((((q : Nat) : Int)) + (((z : Nat) : Int)))) = ((((q + z)) : Nat) : Int)) (hof3 : 0 + (((i : Nat) : Int) : Int).toNat * 1 + 1 ≤ (ce).length) : ∃ T1 M', Rd Try.prog [] (q74.loopAt 0) Try.f74.ntmps (fr [(0, (sli D 0 k (k + 1))), (5, (sli E 0 m (m + 1))), (6, (i64 (((q : Nat) : Int)))), (12, (sli bb o m c)), (13, (i64 (((m : Nat) : Int)))), (14, (i64 (((i : Nat) : Int))))]) M .normal T1 M' ∧ [0, 5, 6, 12, 13, 14].map T1.get = [some (sli D 0 k (k + 1)), some (sli E 0 m (m + 1)), some (i64 (IntKind.wrap .i64 ((((q : Nat) : Int)) + (((z : Nat) : Int))))), some (sli bb o m c), some (i64 (((m : Nat) : Int))), some (i64 (IntKind.wrap .i64 ((((i : Nat) : Int)) + (1 : Int))))] ∧ Ext M0 M' ∧ MemOk M' ∧ M'.get D = some ⟨cd, 3, 1, 0, true⟩ ∧ M'.get E = some ⟨(splice ce (0 + (((i : Nat) : Int) : Int).toNat * 1) [(sli D (0 + q) 0 (((q + z)) - q + 1))]), 22, 1, 0, true⟩ ∧ ∀ id k, M.get id = some k → id ≠ D → id ≠ E → M'.get id = some k := by
  obtain ⟨M1, q2, g3, kp4, X5, hM6, nx7⟩ := store_t (o := 0 + (((i : Nat) : Int) : Int).toNat * 1) (v := (sli D (0 + q) 0 (((q + z)) - q + 1))) (new := splice ce (0 + (((i : Nat) : Int) : Int).toNat * 1) [(sli D (0 + q) 0 (((q + z)) - q + 1))]) X0 hE hM dS22 gE rfl rfl (Nat.zero_le _) hof3 rfl
  replace g3 : M1.get E = some ⟨splice ce (0 + (((i : Nat) : Int) : Int).toNat * 1) [(sli D (0 + q) 0 (((q + z)) - q + 1))], 22, 1, 0, true⟩ := g3
  have g8 := (kp4 _ dDE).trans gD
  have hraw := r30_raw D E bb o m c i k q z cd ce M  M1
  have hkp : ∀ id k, M.get id = some k → id ≠ D → id ≠ E → M1.get id = some k := fun id k g h_D h_E => by
    have g0 := Mem.lt_of_get g
    have g := ((fun id h _ => kp4 id h) id h_E (Mem.lt_of_get g)).trans g
    exact g
  obtain ⟨T1, h1, h2⟩ := Rd.told noNumP mixedP (specs_none Try.prog) (fun _ _ => rfl) hraw (hk (bT cc0) (hk (q_inb (by omega) (by simp at cc0; omega)) (hk (q_ld (aload_ext X0 hld0)) (hk (⟨_, rfl, (by rw [he2]; exact slice3_t (by kernel_rfl) (elem := 3) (by kernel_rfl) gD rfl hs1.1 hs1.2)⟩) (hk (q_inb (by omega) (by simp at cc0; omega)) (hk (q_st q2) hn))))))
  exact ⟨T1, M1, h1, h2, X5, hM6, g8, g3, hkp⟩
theorem r30x_raw (D E : Nat) (a : Option Addr) (m c i k q : Nat) (M : Mem)  : oR Try.prog [] 60 Try.f74 (q74.loopAt 0) [(0, (sli D 0 k (k + 1))), (5, (sli E 0 m (m + 1))), (6, (i64 (((q : Nat) : Int)))), (12, (.slice a m c)), (13, (i64 (((m : Nat) : Int)))), (14, (i64 (((i : Nat) : Int))))] M [ttF 2] [5] = some ((.exit 0), [some (sli E 0 m (m + 1))], M, [qF (decide ((((i : Nat) : Int)) < (((m : Nat) : Int))))]) := by kernel_rfl
theorem r30x (D E : Nat) (a : Option Addr) (m c i k q : Nat) {M : Mem} (cc0 : (decide ((((i : Nat) : Int)) < (((m : Nat) : Int)))) = false) : ∃ T1, Rd Try.prog [] (q74.loopAt 0) Try.f74.ntmps (fr [(0, (sli D 0 k (k + 1))), (5, (sli E 0 m (m + 1))), (6, (i64 (((q : Nat) : Int)))), (12, (.slice a m c)), (13, (i64 (((m : Nat) : Int)))), (14, (i64 (((i : Nat) : Int))))]) M (.exit 0) T1 M ∧ [5].map T1.get = [some (sli E 0 m (m + 1))] := by
  have hraw := r30x_raw D E a m c i k q M  
  obtain ⟨T1, h1, h2⟩ := Rd.told noNumP mixedP (specs_none Try.prog) (fun _ _ => rfl) hraw (hk (bF cc0) hn)
  exact ⟨T1, h1, h2⟩
theorem loop30 {a : Option Addr} {c D E k : Nat} {sz : List Nat} {cd : List Value} {M0 M : Mem} (hM : MemOk M) (X : Ext M0 M) (hs : pNats sz (.slice a sz.length c) M0) (hl : sz.length ≤ 801) (hk : offS (cOf sz) sz.length ≤ k) (hk60 : k ≤ 60) (hE : M0.next ≤ E) (gD : M.get D = some ⟨cd, 3, 1, 0, true⟩) (gE : M.get E = some ⟨List.replicate sz.length sln, 22, 1, 0, true⟩) (dDE : D ≠ E) :
    ∃ M', LoopR Try.prog [] (q74.loopAt 0) Try.f74.ntmps (fr [(0, sli D 0 k (k + 1)), (5, sli E 0 sz.length (sz.length + 1)), (6, i64 ((0 : Nat) : Int)), (12, .slice a sz.length c), (13, i64 ((sz.length : Nat) : Int)), (14, i64 ((0 : Nat) : Int))]) M (.exit 0) (fr [(5, sli E 0 sz.length (sz.length + 1))]) M' ∧ Ext M0 M' ∧ MemOk M' ∧ M'.get E = some ⟨rowCells D (cOf sz) (fun _ => 0) sz.length, 22, 1, 0, true⟩ := by
  have hxl := rowCells_len D (cOf sz) (fun _ => 0) sz.length
  obtain ⟨_, M', h1, h2, h3, _, h6⟩ := LoopR.for (P := Try.prog) (GL := []) (b := q74.loopAt 0) (nt := Try.f74.ntmps) (id := 0) (σ := Unit) (n := sz.length) (Inv := fun i _ M1 => Ext M0 M1 ∧ MemOk M1 ∧ M1.get D = some ⟨cd, 3, 1, 0, true⟩ ∧ M1.get E = some ⟨fillS (rowCells D (cOf sz) (fun _ => 0) sz.length) i sln, 22, 1, 0, true⟩)
    (F := fun i _ => [(0, sli D 0 k (k + 1)), (5, sli E 0 sz.length (sz.length + 1)), (6, i64 ((offS (cOf sz) i : Nat) : Int)), (12, .slice a sz.length c), (13, i64 ((sz.length : Nat) : Int)), (14, i64 ((i : Nat) : Int))])
    (O := fun _ => [(5, sli E 0 sz.length (sz.length + 1))])
    (by
      rintro i _ M1 hi ⟨X1, hM1, hg2, hg3⟩
      have hs' : pInts (sz.map fun k => ((k : Nat) : Int)) (.slice a sz.length c) M0 := hs
      obtain ⟨bb, o, rfl, _⟩ := form_pos hs' (by simp; omega)
      have hnx := offS_next (cOf sz) hi
      have hz : (sz.map fun k => ((k : Nat) : Int))[i]? = some ((cOf sz i : Nat) : Int) := by simp [cOf, hi]
      have e0 : 0 + (((i : Nat) : Int) : Int).toNat * 1 = i := by simp
      have ew := wrap_add (i := offS (cOf sz) i) (j := cOf sz i) (by omega)
      obtain ⟨T1, M2, h1, h2, h3, h4, h6, h7, _⟩ := r30 D E bb o sz.length c i k (offS (cOf sz) i) (cOf sz i) _ _ hM1 X1 hE hg2 hg3 dDE (decide_eq_true (by omega)) (ld_one (P := Try.prog) (ty := 3) hs' hz rfl dC3) ⟨by omega, by omega⟩ ew (by rw [e0, fillS_len _ _ (by omega)]; omega)
      rw [wrap_succ (by omega), ew] at h2
      have hst := fillS_step (z := sln) (rowCells_get D (cOf sz) (fun _ => 0) hi)
      simp only [cellR] at hst
      rw [e0, Nat.zero_add, Nat.add_sub_cancel_left, hst] at h7
      exact ⟨(), T1, M2, h1, h2, h3, h4, h6, h7⟩)
    (by
      rintro _ M1 ⟨X1, hM1, _⟩
      exact r30x D E a sz.length c sz.length k _ (M := M1) (decide_eq_false (by omega)))
    sz.length 0 (by omega) (s := ()) (M := M) ⟨X, hM, gD, by rw [fillS_zero, hxl]; exact gE⟩
  refine ⟨M', h1, h2, h3, ?_⟩
  have := fillS_all (rowCells D (cOf sz) (fun _ => 0) sz.length) sln
  rw [hxl] at this
  rw [this] at h6
  exact h6
theorem rK74 : Try.f74.results = #[.tmp 4] := by kernel_rfl
theorem w30_raw (D k : Nat) (cd : List Value) (az : Option Addr) (cz : Nat) (sz : List Nat) (M : Mem) (b1 : Nat) (M2 : Mem) (M10 : Mem) : oT Try.prog [0] 60 Try.f74 q74 [(sli D 0 k (k + 1)), (.slice az sz.length cz)] M [ttT 5, ttV 7 (sli b1 0 sz.length (sz.length + 1)) M2, ttT 15, .blk 18 [0, 5, 6, 12, 13, 14] .normal (fr [(5, (sli b1 0 sz.length (sz.length + 1)))]) M10] 4 = some (.ret, some (sli b1 0 sz.length (sz.length + 1)), M10, [.ln az sz.length cz, .eq (amakeSlice Try.prog 29 (i64 (((sz.length : Nat) : Int))) (i64 (((sz.length : Nat) : Int))) M) (1, .val (sli b1 0 sz.length (sz.length + 1)), M2), .ln az sz.length cz, .blk 0 (.loop (q74.loopAt 0)) Try.f74.ntmps [0, 5, 6, 12, 13, 14] [some (sli D 0 k (k + 1)), some (sli b1 0 sz.length (sz.length + 1)), some (i64 0), some (.slice az sz.length cz), some (i64 (((sz.length : Nat) : Int))), some (i64 0)] M2 .normal (fr [(5, (sli b1 0 sz.length (sz.length + 1)))]) M10]) := by kernel_rfl
theorem w30 (D k : Nat) (cd : List Value) (az : Option Addr) (cz : Nat) (sz : List Nat) {M : Mem} (hM : MemOk M) (gD : M.get D = some ⟨cd, 3, 1, 0, true⟩) (hsz : pNats sz (.slice az sz.length cz) M) (hsl : sz.length ≤ 801) (hkk : offS (cOf sz) sz.length ≤ k) (hk60 : k ≤ 60) : ∃ v_ M', Ev Try.prog [] 74 [(sli D 0 k (k + 1)), (.slice az sz.length cz)] M v_ M' ∧ Ext M M' ∧ MemOk M' ∧ pShare ((D, k), sz) M.next v_ M' := by
  obtain ⟨b1, M2, eb3, em4, g5, E6, hM7⟩ := mks_t (P := Try.prog) (t := 29) (elem := 22) (z := sln) (n := sz.length) hM (by kernel_rfl) (by kernel_rfl) (by omega)
  have nb1 : M.next ≤ b1 := by rw [← eb3]; exact (Ext.refl M).next
  have dDb1 : D ≠ b1 := by have := Mem.lt_of_get gD; omega
  have g8 := E6.old gD
  have X9 := (Ext.refl M).trans E6
  obtain ⟨M10, hL11, X12, hM13, g14⟩ := loop30 hM7 X9 hsz hsl hkk hk60 nb1 g8 g5 dDb1
  have hraw := w30_raw D k cd az cz sz M  b1 M2 M10
  exact ⟨(sli b1 0 sz.length (sz.length + 1)), M10, Ev.told_tmp noNumP mixedP Try.func74 q74_ok (by kernel_rfl) rK74 (fun B => specsB_ok (l := []) (fun p hp => by cases hp) (k := [(0, bone (.loop (q74.loopAt 0)) Try.f74.ntmps [0, 5, 6, 12, 13, 14] [some (sli D 0 k (k + 1)), some (sli b1 0 sz.length (sz.length + 1)), some (i64 0), some (.slice az sz.length cz), some (i64 (((sz.length : Nat) : Int))), some (i64 0)] M2 .normal (fr [(5, (sli b1 0 sz.length (sz.length + 1)))]) M10)]) (fun p hp => by simp only [List.mem_cons, List.not_mem_nil, or_false] at hp; rcases hp with rfl <;> first | exact BlkOk.loop noNumP mixedP hL11)) (fun _ h => blksF_one h) hraw (hk (lN (GRowsAt.ln (l := sz.map fun k => ((k : Nat) : Int)) hsz)) (hk (q_eq em4 Nat.one_ne_zero) (hk (lN (GRowsAt.ln (l := sz.map fun k => ((k : Nat) : Int)) hsz)) (hk (q_blk rfl) hn)))), X12, hM13, ⟨b1, rfl, nb1, g14⟩⟩
abbrev Q74 := FC (asP (as2 pMem pNats) fun x => x.2.length ≤ 801 ∧ offS (cOf x.2) x.2.length ≤ x.1.2 ∧ x.1.2 ≤ 60) pShare id
theorem con74 {x : (Nat × Nat) × List Nat} {lv : List Value} {M : Mem} (hM : MemOk M) (h : (asP (as2 pMem pNats) fun x : (Nat × Nat) × List Nat => x.2.length ≤ 801 ∧ offS (cOf x.2) x.2.length ≤ x.1.2 ∧ x.1.2 ≤ 60) x lv M) : ∃ v M', Con Try.prog [] 74 Q74 lv M v M' := by
  refine FC.con h ?_
  obtain ⟨⟨g0, g1, rfl, k0, k1⟩, h1, h2, h3⟩ := h
  obtain ⟨⟨D, k⟩, sz⟩ := x
  obtain ⟨rfl, cd, gD⟩ := k0
  obtain ⟨az, cz, e⟩ := GRowsAt.form (l := sz.map fun k => ((k : Nat) : Int)) k1
  rw [List.length_map] at e
  subst e
  obtain ⟨v', M', q1, q2, _, q3⟩ := w30 D k cd az cz sz hM gD k1 h1 h2 h3
  exact ⟨v', M', q1, q2, q3⟩
end Go.Proofs.Ytdaglldahidmbaa
