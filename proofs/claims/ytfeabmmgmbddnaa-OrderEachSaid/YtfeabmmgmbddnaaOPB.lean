/-
  Package order: each of its laws for every argument; no conditions. The last text states which.
-/
import Derived.Test.YtfeabmmgmbddnaaOPA
open Go Go.Am Go.Proofs
namespace Go.Proofs.Ytfeabmmgmbddnaa
set_option maxRecDepth 100000
set_option linter.unusedVariables false
set_option linter.unusedSimpArgs false
theorem hS31_25 (B : Bd) : ∀ p ∈ ([(25, pick (Con Try.prog [] 25 Q25))] : List (FuncId × (List Value → Mem → Option (Value × Mem)))), SpecOk Try.prog [] B p.1 p.2 := (fun p hp => by simp only [List.mem_cons, List.not_mem_nil, or_false] at hp; rcases hp with rfl <;> first | exact Con.ok _)
theorem r31_raw (C n ab bb o m c i : Nat) (x z : Int) (cc : List Value) (ad : AdjM) (M : Mem) (M3 : Mem) (M13 : Mem) : oR Try.prog [] 60 Try.f31 (q31.loopAt 0) [(1, (.func (.func 25) ⟨[(.agg ⟨[(i64 (((n : Nat) : Int))), (pt ab 0)]⟩)]⟩ ⟨[]⟩)), (5, (sli C 0 801 802)), (9, (sli bb o m c)), (10, (i64 (((m : Nat) : Int)))), (11, (i64 (((i : Nat) : Int))))] M [ttT 2, ttT 4, ttL 6 (i64 x), ttV 16 (i64 (((endsN ad x : Nat) : Int))) M3, ttT 18, ttL 20 (i64 z), ttT 24, ttS 26 M13] [1, 5, 9, 10, 11] = some (.normal, [some (.func (.func 25) ⟨[(.agg ⟨[(i64 (((n : Nat) : Int))), (pt ab 0)]⟩)]⟩ ⟨[]⟩), some (sli C 0 801 802), some (sli bb o m c), some (i64 (((m : Nat) : Int))), some (i64 (IntKind.wrap .i64 ((((i : Nat) : Int)) + (1 : Int))))], M13, [qT (decide ((((i : Nat) : Int)) < (((m : Nat) : Int)))), .q (.inb (((i : Nat) : Int)) m) (ansB true), qL 3 bb (o + (((i : Nat) : Int) : Int).toNat * 1) M (i64 x), qC 25 [(.agg ⟨[(i64 (((n : Nat) : Int))), (pt ab 0)]⟩), (i64 x)] M (i64 (((endsN ad x : Nat) : Int))) M3, .q (.inb (((endsN ad x : Nat) : Int)) 801) (ansB true), qL 3 C (0 + (((endsN ad x : Nat) : Int) : Int).toNat * 1) M3 (i64 z), .q (.inb (((endsN ad x : Nat) : Int)) 801) (ansB true), qS 3 C (0 + (((endsN ad x : Nat) : Int) : Int).toNat * 1) (i64 (IntKind.wrap .i64 (z + (1 : Int)))) M3 M13]) := by kernel_rfl
theorem r31 (C n ab bb o m c i : Nat) (x z : Int) (cc : List Value) (ad : AdjM) {M M0 : Mem} (hM : MemOk M) (X0 : Ext M0 M) (hC : M0.next ≤ C) (gC : M.get C = some ⟨cc, 3, 1, 0, true⟩) (hadj : pAdj 59 ad (pt ab 0) M0) (hok : okA ad) (cc0 : (decide ((((i : Nat) : Int)) < (((m : Nat) : Int)))) = true) (hld0 : aload Try.prog 3 ⟨bb, o + (((i : Nat) : Int) : Int).toNat * 1, none⟩ M0 = some (i64 x)) (hi1 : 0 ≤ (((endsN ad x : Nat) : Int) : Int) ∧ (((endsN ad x : Nat) : Int) : Int) < 801) (hc2 : (cc)[0 + (((endsN ad x : Nat) : Int) : Int).toNat * 1]? = some (i64 z)) (hof3 : 0 + (((endsN ad x : Nat) : Int) : Int).toNat * 1 + 1 ≤ (cc).length) : ∃ T1 M', Rd Try.prog [] (q31.loopAt 0) Try.f31.ntmps (fr [(1, (.func (.func 25) ⟨[(.agg ⟨[(i64 (((n : Nat) : Int))), (pt ab 0)]⟩)]⟩ ⟨[]⟩)), (5, (sli C 0 801 802)), (9, (sli bb o m c)), (10, (i64 (((m : Nat) : Int)))), (11, (i64 (((i : Nat) : Int))))]) M .normal T1 M' ∧ [1, 5, 9, 10, 11].map T1.get = [some (.func (.func 25) ⟨[(.agg ⟨[(i64 (((n : Nat) : Int))), (pt ab 0)]⟩)]⟩ ⟨[]⟩), some (sli C 0 801 802), some (sli bb o m c), some (i64 (((m : Nat) : Int))), some (i64 (IntKind.wrap .i64 ((((i : Nat) : Int)) + (1 : Int))))] ∧ Ext M0 M' ∧ MemOk M' ∧ M'.get C = some ⟨(splice cc (0 + (((endsN ad x : Nat) : Int) : Int).toNat * 1) [(i64 (IntKind.wrap .i64 (z + (1 : Int))))]), 3, 1, 0, true⟩ ∧ ∀ id k, M.get id = some k → id ≠ C → M'.get id = some k := by
  obtain ⟨w1, N2, M3, p4, l5, e6, E7, hM8, F9⟩ := call_fc (x := ((n, ad), x)) hM con25 (⟨⟨_, _, rfl, ⟨_, rfl, AP.Ext (R := (pAdj 59)) hadj X0⟩, rfl⟩, hok⟩)
  have g11 := E7.old gC
  have ew1 : w1 = (i64 (((endsN ad x : Nat) : Int))) := F9
  subst ew1
  have X12 := X0.trans E7
  obtain ⟨M13, q14, g15, kp16, X17, hM18, nx19⟩ := store_t (o := 0 + (((endsN ad x : Nat) : Int) : Int).toNat * 1) (v := (i64 (IntKind.wrap .i64 (z + (1 : Int))))) (new := splice cc (0 + (((endsN ad x : Nat) : Int) : Int).toNat * 1) [(i64 (IntKind.wrap .i64 (z + (1 : Int))))]) X12 hC hM8 dS3 g11 rfl rfl (Nat.zero_le _) hof3 rfl
  replace g15 : M13.get C = some ⟨splice cc (0 + (((endsN ad x : Nat) : Int) : Int).toNat * 1) [(i64 (IntKind.wrap .i64 (z + (1 : Int))))], 3, 1, 0, true⟩ := g15
  have hraw := r31_raw C n ab bb o m c i x z cc ad M  M3 M13
  have hkp : ∀ id k, M.get id = some k → id ≠ C → M13.get id = some k := fun id k g h_C => by
    have g0 := Mem.lt_of_get g
    have g := E7.old g
    have g := ((fun id h _ => kp16 id h) id h_C (Mem.lt_of_get g)).trans g
    exact g
  obtain ⟨T1, h1, h2⟩ := Rd.told noNumP mixedP (fun B => specsB_ok (k := []) (hS31_25 B) (fun p hp => by cases hp)) (fun _ _ => rfl) hraw (hk (bT cc0) (hk (q_inb (by omega) (by simp at cc0; omega)) (hk (q_ld (aload_ext X0 hld0)) (hk (q_call rfl p4 l5 e6) (hk (q_inb hi1.1 hi1.2) (hk (q_ld (aload_cell (a := ⟨C, 0 + (((endsN ad x : Nat) : Int) : Int).toNat * 1, none⟩) dC3 g11 hc2)) (hk (q_inb hi1.1 hi1.2) (hk (q_st q14) hn))))))))
  exact ⟨T1, M13, h1, h2, X17, hM18, g15, hkp⟩
theorem r31x_raw (C n ab : Nat) (a : Option Addr) (m c i : Nat) (M : Mem)  : oR Try.prog [] 60 Try.f31 (q31.loopAt 0) [(1, (.func (.func 25) ⟨[(.agg ⟨[(i64 (((n : Nat) : Int))), (pt ab 0)]⟩)]⟩ ⟨[]⟩)), (5, (sli C 0 801 802)), (9, (.slice a m c)), (10, (i64 (((m : Nat) : Int)))), (11, (i64 (((i : Nat) : Int))))] M [ttF 2] [5] = some ((.exit 0), [some (sli C 0 801 802)], M, [qF (decide ((((i : Nat) : Int)) < (((m : Nat) : Int))))]) := by kernel_rfl
theorem r31x (C n ab : Nat) (a : Option Addr) (m c i : Nat) {M : Mem} (cc0 : (decide ((((i : Nat) : Int)) < (((m : Nat) : Int)))) = false) : ∃ T1, Rd Try.prog [] (q31.loopAt 0) Try.f31.ntmps (fr [(1, (.func (.func 25) ⟨[(.agg ⟨[(i64 (((n : Nat) : Int))), (pt ab 0)]⟩)]⟩ ⟨[]⟩)), (5, (sli C 0 801 802)), (9, (.slice a m c)), (10, (i64 (((m : Nat) : Int)))), (11, (i64 (((i : Nat) : Int))))]) M (.exit 0) T1 M ∧ [5].map T1.get = [some (sli C 0 801 802)] := by
  have hraw := r31x_raw C n ab a m c i M  
  obtain ⟨T1, h1, h2⟩ := Rd.told noNumP mixedP (specs_none Try.prog) (fun _ _ => rfl) hraw (hk (bF cc0) hn)
  exact ⟨T1, h1, h2⟩
theorem loop31 {a : Option Addr} {c C n ab : Nat} {ad : AdjM} {vs : List Int} {M0 M : Mem} (hM : MemOk M) (X : Ext M0 M) (hs : pInts vs (.slice a vs.length c) M0) (hadj : pAdj 59 ad (pt ab 0) M0) (hok : okA ad) (hl : vs.length ≤ 60) (hC : M0.next ≤ C) (gC : M.get C = some ⟨List.replicate 801 (i64 0), 3, 1, 0, true⟩) :
    ∃ M', LoopR Try.prog [] (q31.loopAt 0) Try.f31.ntmps (fr [(1, (.func (.func 25) ⟨[(.agg ⟨[(i64 (((n : Nat) : Int))), (pt ab 0)]⟩)]⟩ ⟨[]⟩)), (5, sli C 0 801 802), (9, .slice a vs.length c), (10, i64 ((vs.length : Nat) : Int)), (11, i64 ((0 : Nat) : Int))]) M (.exit 0) (fr [(5, sli C 0 801 802)]) M' ∧ Ext M0 M' ∧ MemOk M' ∧ M'.get C = some ⟨cntCells (keyV ad vs) vs.length 801, 3, 1, 0, true⟩ := by
  obtain ⟨_, M', h1, h2, h3, h4⟩ := LoopR.for (P := Try.prog) (GL := []) (b := q31.loopAt 0) (nt := Try.f31.ntmps) (id := 0) (σ := Unit) (n := vs.length) (Inv := fun i _ M1 => Ext M0 M1 ∧ MemOk M1 ∧ M1.get C = some ⟨cntCells (keyV ad vs) i 801, 3, 1, 0, true⟩)
    (F := fun i _ => [(1, (.func (.func 25) ⟨[(.agg ⟨[(i64 (((n : Nat) : Int))), (pt ab 0)]⟩)]⟩ ⟨[]⟩)), (5, sli C 0 801 802), (9, .slice a vs.length c), (10, i64 ((vs.length : Nat) : Int)), (11, i64 ((i : Nat) : Int))])
    (O := fun _ => [(5, sli C 0 801 802)])
    (by
      rintro i _ M1 hi ⟨X1, hM1, hg1⟩
      obtain ⟨bb, o, rfl, _⟩ := form_pos hs (by omega)
      have ht : vs[i]? = some vs[i] := List.getElem?_eq_getElem hi
      have hk : endsN ad vs[i] = keyV ad vs i := by unfold keyV; rw [ht]; rfl
      have hle := endsN_le hok vs[i]
      have e0 : 0 + (((endsN ad vs[i] : Nat) : Int) : Int).toNat * 1 = keyV ad vs i := by rw [hk]; simp
      obtain ⟨T1, M2, h1, h2, h3, h4, h5, _⟩ := r31 C n ab bb o vs.length c i vs[i] ((cnt (keyV ad vs) i (keyV ad vs i) : Nat) : Int) _ ad hM1 X1 hC hg1 hadj hok (decide_eq_true (by omega)) (ld_one (P := Try.prog) (ty := 3) hs ht rfl dC3) (by omega) (by rw [e0]; exact cntCells_get _ _ (by omega)) (by rw [e0, cntCells_len]; omega)
      rw [wrap_succ (by omega)] at h2
      have hc := cnt_le (keyV ad vs) i (keyV ad vs i)
      rw [e0, wrap_succ (by omega), cntCells_step _ (by omega)] at h5
      exact ⟨(), T1, M2, h1, h2, h3, h4, h5⟩)
    (by
      rintro _ M1 ⟨X1, hM1, hg1⟩
      exact r31x C n ab a vs.length c vs.length (M := M1) (decide_eq_false (by omega)))
    vs.length 0 (by omega) (s := ()) (M := M) ⟨X, hM, by rw [cntCells_zero]; exact gC⟩
  exact ⟨M', h1, h2, h3, h4⟩
theorem rK31 : Try.f31.results = #[.tmp 4] := by kernel_rfl
theorem w31_raw (n ab : Nat) (ad : AdjM) (av : Option Addr) (cv : Nat) (vs : List Int) (M : Mem) (b1 : Nat) (M2 : Mem) (M9 : Mem) : oT Try.prog [0] 60 Try.f31 q31 [(.slice av vs.length cv), (.func (.func 25) ⟨[(.agg ⟨[(i64 (((n : Nat) : Int))), (pt ab 0)]⟩)]⟩ ⟨[]⟩)] M [ttV 3 (sli b1 0 801 802) M2, ttT 9, .blk 12 [1, 5, 9, 10, 11] .normal (fr [(5, (sli b1 0 801 802))]) M9] 4 = some (.ret, some (sli b1 0 801 802), M9, [.eq (amakeSlice Try.prog 22 (i64 801) (i64 801) M) (1, .val (sli b1 0 801 802), M2), .ln av vs.length cv, .blk 0 (.loop (q31.loopAt 0)) Try.f31.ntmps [1, 5, 9, 10, 11] [some (.func (.func 25) ⟨[(.agg ⟨[(i64 (((n : Nat) : Int))), (pt ab 0)]⟩)]⟩ ⟨[]⟩), some (sli b1 0 801 802), some (.slice av vs.length cv), some (i64 (((vs.length : Nat) : Int))), some (i64 0)] M2 .normal (fr [(5, (sli b1 0 801 802))]) M9]) := by kernel_rfl
theorem w31 (n ab : Nat) (ad : AdjM) (av : Option Addr) (cv : Nat) (vs : List Int) {M : Mem} (hM : MemOk M) (hvs : pInts vs (.slice av vs.length cv) M) (hadj : pAdj 59 ad (pt ab 0) M) (hok : okA ad) (hl60 : vs.length ≤ 60) : ∃ v_ M', Ev Try.prog [] 31 [(.slice av vs.length cv), (.func (.func 25) ⟨[(.agg ⟨[(i64 (((n : Nat) : Int))), (pt ab 0)]⟩)]⟩ ⟨[]⟩)] M v_ M' ∧ Ext M M' ∧ MemOk M' ∧ newR pNats (tallyN ad vs) M.next v_ M' := by
  obtain ⟨b1, M2, eb3, em4, g5, E6, hM7⟩ := mks_t (P := Try.prog) (t := 22) (elem := 3) (z := (i64 0)) (n := 801) hM (by kernel_rfl) (by kernel_rfl) (by decide)
  have nb1 : M.next ≤ b1 := by rw [← eb3]; exact (Ext.refl M).next
  have X8 := (Ext.refl M).trans E6
  obtain ⟨M9, hL10, X11, hM12, g13⟩ := loop31 hM7 X8 hvs hadj hok hl60 nb1 g5
  have hraw := w31_raw n ab ad av cv vs M  b1 M2 M9
  exact ⟨(sli b1 0 801 802), M9, Ev.told_tmp noNumP mixedP Try.func31 q31_ok (by kernel_rfl) rK31 (fun B => specsB_ok (l := []) (fun p hp => by cases hp) (k := [(0, bone (.loop (q31.loopAt 0)) Try.f31.ntmps [1, 5, 9, 10, 11] [some (.func (.func 25) ⟨[(.agg ⟨[(i64 (((n : Nat) : Int))), (pt ab 0)]⟩)]⟩ ⟨[]⟩), some (sli b1 0 801 802), some (.slice av vs.length cv), some (i64 (((vs.length : Nat) : Int))), some (i64 0)] M2 .normal (fr [(5, (sli b1 0 801 802))]) M9)]) (fun p hp => by simp only [List.mem_cons, List.not_mem_nil, or_false] at hp; rcases hp with rfl <;> first | exact BlkOk.loop noNumP mixedP hL10)) (fun _ h => blksF_one h) hraw (hk (q_eq em4 Nat.one_ne_zero) (hk (lN hvs.ln) (hk (q_blk rfl) hn))), X11, hM12, GRowsAt.of_blk' (b := b1) (w := 1) (g := iRow) (hid_of nb1 g13) (by simp [tallyN]) (by simp [tallyN, cntCells, flat1, List.map_map, Function.comp_def]) (fun _ _ => rfl) (by simp [tallyN])⟩
abbrev Q31 := FC (asP (as2 pInts (pCount 25 59)) fun x => okA x.2.2 ∧ x.1.length ≤ 60) (newR pNats) (fun x => tallyN x.2.2 x.1)
theorem con31 {x : List Int × Nat × AdjM} {lv : List Value} {M : Mem} (hM : MemOk M) (h : (asP (as2 pInts (pCount 25 59)) fun x : List Int × Nat × AdjM => okA x.2.2 ∧ x.1.length ≤ 60) x lv M) : ∃ v M', Con Try.prog [] 31 Q31 lv M v M' := by
  refine FC.con h ?_
  obtain ⟨⟨g0, g1, rfl, k0, k1⟩, hok, hl⟩ := h
  obtain ⟨vs, n, ad⟩ := x
  obtain ⟨av, cv, rfl⟩ := GRowsAt.form k0
  obtain ⟨s, rfl, p, rfl, hadj⟩ := k1
  obtain ⟨ab, o, i_, t, s, rfl, gab, hout, hinn, hto, hset⟩ := id hadj
  obtain ⟨v', M', h1, h2, _, h3⟩ := w31 n ab ad av cv vs hM k0 hadj hok hl
  exact ⟨v', M', h1, h2, h3⟩
theorem r30_raw (D E bb o m c i k q z : Nat) (cd ce : List Value) (M : Mem) (M1 : Mem) : oR Try.prog [] 60 Try.f30 (q30.loopAt 0) [(0, (sli D 0 k (k + 1))), (5, (sli E 0 m (m + 1))), (6, (i64 (((q : Nat) : Int)))), (12, (sli bb o m c)), (13, (i64 (((m : Nat) : Int)))), (14, (i64 (((i : Nat) : Int))))] M [ttT 2, ttT 6, ttL 8 (i64 (((z : Nat) : Int))), ttL 30 (sli D (0 + q) 0 (((q + z)) - q + 1)), ttT 32, ttS 34 M1] [0, 5, 6, 12, 13, 14] = some (.normal, [some (sli D 0 k (k + 1)), some (sli E 0 m (m + 1)), some (i64 (IntKind.wrap .i64 ((((q : Nat) : Int)) + (((z : Nat) : Int))))), some (sli bb o m c), some (i64 (((m : Nat) : Int))), some (i64 (IntKind.wrap .i64 ((((i : Nat) : Int)) + (1 : Int))))], M1, [qT (decide ((((i : Nat) : Int)) < (((m : Nat) : Int)))), .q (.inb (((i : Nat) : Int)) m) (ansB true), qL 3 bb (o + (((i : Nat) : Int) : Int).toNat * 1) M (i64 (((z : Nat) : Int))), .q (.slice 22 (sli D 0 k (k + 1)) (some (i64 (((q : Nat) : Int)))) (some (i64 (((q : Nat) : Int)))) (some (i64 (IntKind.wrap .i64 ((((q : Nat) : Int)) + (((z : Nat) : Int)))))) M) (1, .val (sli D (0 + q) 0 (((q + z)) - q + 1)), noMem), .q (.inb (((i : Nat) : Int)) m) (ansB true), qS 22 E (0 + (((i : Nat) : Int) : Int).toNat * 1) (sli D (0 + q) 0 (((q + z)) - q + 1)) M M1]) := by kernel_rfl
theorem r30 (D E bb o m c i k q z : Nat) (cd ce : List Value) {M M0 : Mem} (hM : MemOk M) (X0 : Ext M0 M) (hE : M0.next ≤ E) (gD : M.get D = some ⟨cd, 3, 1, 0, true⟩) (gE : M.get E = some ⟨ce, 22, 1, 0, true⟩) (dDE : D ≠ E) (cc0 : (decide ((((i : Nat) : Int)) < (((m : Nat) : Int)))) = true) (hld0 : aload Try.prog 3 ⟨bb, o + (((i : Nat) : Int) : Int).toNat * 1, none⟩ M0 = some (i64 (((z : Nat) : Int)))) (hs1 : q ≤ ((q + z)) ∧ ((q + z)) ≤ k) (he2 : (IntKind.wrap .i64 ((((q : Nat) : Int)) + (((z : Nat) : Int)))) = ((((q + z)) : Nat) : Int)) (hof3 : 0 + (((i : Nat) : Int) : Int).toNat * 1 + 1 ≤ (ce).length) : ∃ T1 M', Rd Try.prog [] (q30.loopAt 0) Try.f30.ntmps (fr [(0, (sli D 0 k (k + 1))), (5, (sli E 0 m (m + 1))), (6, (i64 (((q : Nat) : Int)))), (12, (sli bb o m c)), (13, (i64 (((m : Nat) : Int)))), (14, (i64 (((i : Nat) : Int))))]) M .normal T1 M' ∧ [0, 5, 6, 12, 13, 14].map T1.get = [some (sli D 0 k (k + 1)), some (sli E 0 m (m + 1)), some (i64 (IntKind.wrap .i64 ((((q : Nat) : Int)) + (((z : Nat) : Int))))), some (sli bb o m c), some (i64 (((m : Nat) : Int))), some (i64 (IntKind.wrap .i64 ((((i : Nat) : Int)) + (1 : Int))))] ∧ Ext M0 M' ∧ MemOk M' ∧ M'.get D = some ⟨cd, 3, 1, 0, true⟩ ∧ M'.get E = some ⟨(splice ce (0 + (((i : Nat) : Int) : Int).toNat * 1) [(sli D (0 + q) 0 (((q + z)) - q + 1))]), 22, 1, 0, true⟩ ∧ ∀ id k, M.get id = some k → id ≠ D → id ≠ E → M'.get id = some k := by
  obtain ⟨M1, q2, g3, kp4, X5, hM6, nx7⟩ := store_t (o := 0 + (((i : Nat) : Int) : Int).toNat * 1) (v := (sli D (0 + q) 0 (((q + z)) - q + 1))) (new := splice ce (0 + (((i : Nat) : Int) : Int).toNat * 1) [(sli D (0 + q) 0 (((q + z)) - q + 1))]) X0 hE hM dS22 gE rfl rfl (Nat.zero_le _) hof3 rfl
  replace g3 : M1.get E = some ⟨splice ce (0 + (((i : Nat) : Int) : Int).toNat * 1) [(sli D (0 + q) 0 (((q + z)) - q + 1))], 22, 1, 0, true⟩ := g3
  have g8 := (kp4 _ dDE).trans gD
  have hraw := r30_raw D E bb o m c i k q z cd ce M  M1
  have hkp : ∀ id k, M.get id = some k → id ≠ D → id ≠ E → M1.get id = some k := fun id k g h_D h_E => by
    have g0 := Mem.lt_of_get g
    have g := ((fun id h _ => kp4 id h) id h_E (Mem.lt_of_get g)).trans g
    exact g
  obtain ⟨T1, h1, h2⟩ := Rd.told noNumP mixedP (specs_none Try.prog) (fun _ _ => rfl) hraw (hk (bT cc0) (hk (q_inb (by omega) (by simp at cc0; omega)) (hk (q_ld (aload_ext X0 hld0)) (hk (⟨_, rfl, (by rw [he2]; exact slice3_t (by kernel_rfl) (elem := 3) (by kernel_rfl) gD rfl hs1.1 hs1.2)⟩) (hk (q_inb (by omega) (by simp at cc0; omega)) (hk (q_st q2) hn))))))
  exact ⟨T1, M1, h1, h2, X5, hM6, g8, g3, hkp⟩
theorem r30x_raw (D E : Nat) (a : Option Addr) (m c i k q : Nat) (M : Mem)  : oR Try.prog [] 60 Try.f30 (q30.loopAt 0) [(0, (sli D 0 k (k + 1))), (5, (sli E 0 m (m + 1))), (6, (i64 (((q : Nat) : Int)))), (12, (.slice a m c)), (13, (i64 (((m : Nat) : Int)))), (14, (i64 (((i : Nat) : Int))))] M [ttF 2] [5] = some ((.exit 0), [some (sli E 0 m (m + 1))], M, [qF (decide ((((i : Nat) : Int)) < (((m : Nat) : Int))))]) := by kernel_rfl
theorem r30x (D E : Nat) (a : Option Addr) (m c i k q : Nat) {M : Mem} (cc0 : (decide ((((i : Nat) : Int)) < (((m : Nat) : Int)))) = false) : ∃ T1, Rd Try.prog [] (q30.loopAt 0) Try.f30.ntmps (fr [(0, (sli D 0 k (k + 1))), (5, (sli E 0 m (m + 1))), (6, (i64 (((q : Nat) : Int)))), (12, (.slice a m c)), (13, (i64 (((m : Nat) : Int)))), (14, (i64 (((i : Nat) : Int))))]) M (.exit 0) T1 M ∧ [5].map T1.get = [some (sli E 0 m (m + 1))] := by
  have hraw := r30x_raw D E a m c i k q M  
  obtain ⟨T1, h1, h2⟩ := Rd.told noNumP mixedP (specs_none Try.prog) (fun _ _ => rfl) hraw (hk (bF cc0) hn)
  exact ⟨T1, h1, h2⟩
theorem loop30 {a : Option Addr} {c D E k : Nat} {sz : List Nat} {cd : List Value} {M0 M : Mem} (hM : MemOk M) (X : Ext M0 M) (hs : pNats sz (.slice a sz.length c) M0) (hl : sz.length ≤ 801) (hk : offS (cOf sz) sz.length ≤ k) (hk60 : k ≤ 60) (hE : M0.next ≤ E) (gD : M.get D = some ⟨cd, 3, 1, 0, true⟩) (gE : M.get E = some ⟨List.replicate sz.length sln, 22, 1, 0, true⟩) (dDE : D ≠ E) :
    ∃ M', LoopR Try.prog [] (q30.loopAt 0) Try.f30.ntmps (fr [(0, sli D 0 k (k + 1)), (5, sli E 0 sz.length (sz.length + 1)), (6, i64 ((0 : Nat) : Int)), (12, .slice a sz.length c), (13, i64 ((sz.length : Nat) : Int)), (14, i64 ((0 : Nat) : Int))]) M (.exit 0) (fr [(5, sli E 0 sz.length (sz.length + 1))]) M' ∧ Ext M0 M' ∧ MemOk M' ∧ M'.get E = some ⟨rowCells D (cOf sz) (fun _ => 0) sz.length, 22, 1, 0, true⟩ := by
  have hxl := rowCells_len D (cOf sz) (fun _ => 0) sz.length
  obtain ⟨_, M', h1, h2, h3, _, h6⟩ := LoopR.for (P := Try.prog) (GL := []) (b := q30.loopAt 0) (nt := Try.f30.ntmps) (id := 0) (σ := Unit) (n := sz.length) (Inv := fun i _ M1 => Ext M0 M1 ∧ MemOk M1 ∧ M1.get D = some ⟨cd, 3, 1, 0, true⟩ ∧ M1.get E = some ⟨fillS (rowCells D (cOf sz) (fun _ => 0) sz.length) i sln, 22, 1, 0, true⟩)
    (F := fun i _ => [(0, sli D 0 k (k + 1)), (5, sli E 0 sz.length (sz.length + 1)), (6, i64 ((offS (cOf sz) i : Nat) : Int)), (12, .slice a sz.length c), (13, i64 ((sz.length : Nat) : Int)), (14, i64 ((i : Nat) : Int))])
    (O := fun _ => [(5, sli E 0 sz.length (sz.length + 1))])
    (by
      rintro i _ M1 hi ⟨X1, hM1, hg2, hg3⟩
      have hs' : pInts (sz.map fun k => ((k : Nat) : Int)) (.slice a sz.length c) M0 := hs
      obtain ⟨bb, o, rfl, _⟩ := form_pos hs' (by simp; omega)
      have hnx := offS_next (cOf sz) hi
      have hz : (sz.map fun k => ((k : Nat) : Int))[i]? = some ((cOf sz i : Nat) : Int) := by simp [cOf, hi]
      have e0 : 0 + (((i : Nat) : Int) : Int).toNat * 1 = i := by simp
      have ew := wrap_add (i := offS (cOf sz) i) (j := cOf sz i) (by omega)
      obtain ⟨T1, M2, h1, h2, h3, h4, h6, h7, _⟩ := r30 D E bb o sz.length c i k (offS (cOf sz) i) (cOf sz i) _ _ hM1 X1 hE hg2 hg3 dDE (decide_eq_true (by omega)) (ld_one (P := Try.prog) (ty := 3) hs' hz rfl dC3) ⟨by omega, by omega⟩ ew (by rw [e0, fillS_len _ _ (by omega)]; omega)
      rw [wrap_succ (by omega), ew] at h2
      have hst := fillS_step (z := sln) (rowCells_get D (cOf sz) (fun _ => 0) hi)
      simp only [cellR] at hst
      rw [e0, Nat.zero_add, Nat.add_sub_cancel_left, hst] at h7
      exact ⟨(), T1, M2, h1, h2, h3, h4, h6, h7⟩)
    (by
      rintro _ M1 ⟨X1, hM1, _⟩
      exact r30x D E a sz.length c sz.length k _ (M := M1) (decide_eq_false (by omega)))
    sz.length 0 (by omega) (s := ()) (M := M) ⟨X, hM, gD, by rw [fillS_zero, hxl]; exact gE⟩
  refine ⟨M', h1, h2, h3, ?_⟩
  have := fillS_all (rowCells D (cOf sz) (fun _ => 0) sz.length) sln
  rw [hxl] at this
  rw [this] at h6
  exact h6
theorem rK30 : Try.f30.results = #[.tmp 4] := by kernel_rfl
theorem w30_raw (D k : Nat) (cd : List Value) (az : Option Addr) (cz : Nat) (sz : List Nat) (M : Mem) (b1 : Nat) (M2 : Mem) (M10 : Mem) : oT Try.prog [0] 60 Try.f30 q30 [(sli D 0 k (k + 1)), (.slice az sz.length cz)] M [ttT 5, ttV 7 (sli b1 0 sz.length (sz.length + 1)) M2, ttT 15, .blk 18 [0, 5, 6, 12, 13, 14] .normal (fr [(5, (sli b1 0 sz.length (sz.length + 1)))]) M10] 4 = some (.ret, some (sli b1 0 sz.length (sz.length + 1)), M10, [.ln az sz.length cz, .eq (amakeSlice Try.prog 41 (i64 (((sz.length : Nat) : Int))) (i64 (((sz.length : Nat) : Int))) M) (1, .val (sli b1 0 sz.length (sz.length + 1)), M2), .ln az sz.length cz, .blk 0 (.loop (q30.loopAt 0)) Try.f30.ntmps [0, 5, 6, 12, 13, 14] [some (sli D 0 k (k + 1)), some (sli b1 0 sz.length (sz.length + 1)), some (i64 0), some (.slice az sz.length cz), some (i64 (((sz.length : Nat) : Int))), some (i64 0)] M2 .normal (fr [(5, (sli b1 0 sz.length (sz.length + 1)))]) M10]) := by kernel_rfl
theorem w30 (D k : Nat) (cd : List Value) (az : Option Addr) (cz : Nat) (sz : List Nat) {M : Mem} (hM : MemOk M) (gD : M.get D = some ⟨cd, 3, 1, 0, true⟩) (hsz : pNats sz (.slice az sz.length cz) M) (hsl : sz.length ≤ 801) (hkk : offS (cOf sz) sz.length ≤ k) (hk60 : k ≤ 60) : ∃ v_ M', Ev Try.prog [] 30 [(sli D 0 k (k + 1)), (.slice az sz.length cz)] M v_ M' ∧ Ext M M' ∧ MemOk M' ∧ pShare ((D, k), sz) M.next v_ M' := by
  obtain ⟨b1, M2, eb3, em4, g5, E6, hM7⟩ := mks_t (P := Try.prog) (t := 41) (elem := 22) (z := sln) (n := sz.length) hM (by kernel_rfl) (by kernel_rfl) (by omega)
  have nb1 : M.next ≤ b1 := by rw [← eb3]; exact (Ext.refl M).next
  have dDb1 : D ≠ b1 := by have := Mem.lt_of_get gD; omega
  have g8 := E6.old gD
  have X9 := (Ext.refl M).trans E6
  obtain ⟨M10, hL11, X12, hM13, g14⟩ := loop30 hM7 X9 hsz hsl hkk hk60 nb1 g8 g5 dDb1
  have hraw := w30_raw D k cd az cz sz M  b1 M2 M10
  exact ⟨(sli b1 0 sz.length (sz.length + 1)), M10, Ev.told_tmp noNumP mixedP Try.func30 q30_ok (by kernel_rfl) rK30 (fun B => specsB_ok (l := []) (fun p hp => by cases hp) (k := [(0, bone (.loop (q30.loopAt 0)) Try.f30.ntmps [0, 5, 6, 12, 13, 14] [some (sli D 0 k (k + 1)), some (sli b1 0 sz.length (sz.length + 1)), some (i64 0), some (.slice az sz.length cz), some (i64 (((sz.length : Nat) : Int))), some (i64 0)] M2 .normal (fr [(5, (sli b1 0 sz.length (sz.length + 1)))]) M10)]) (fun p hp => by simp only [List.mem_cons, List.not_mem_nil, or_false] at hp; rcases hp with rfl <;> first | exact BlkOk.loop noNumP mixedP hL11)) (fun _ h => blksF_one h) hraw (hk (lN (GRowsAt.ln (l := sz.map fun k => ((k : Nat) : Int)) hsz)) (hk (q_eq em4 Nat.one_ne_zero) (hk (lN (GRowsAt.ln (l := sz.map fun k => ((k : Nat) : Int)) hsz)) (hk (q_blk rfl) hn)))), X12, hM13, ⟨b1, rfl, nb1, g14⟩⟩
abbrev Q30 := FC (asP (as2 pMem pNats) fun x => x.2.length ≤ 801 ∧ offS (cOf x.2) x.2.length ≤ x.1.2 ∧ x.1.2 ≤ 60) pShare id
theorem con30 {x : (Nat × Nat) × List Nat} {lv : List Value} {M : Mem} (hM : MemOk M) (h : (asP (as2 pMem pNats) fun x : (Nat × Nat) × List Nat => x.2.length ≤ 801 ∧ offS (cOf x.2) x.2.length ≤ x.1.2 ∧ x.1.2 ≤ 60) x lv M) : ∃ v M', Con Try.prog [] 30 Q30 lv M v M' := by
  refine FC.con h ?_
  obtain ⟨⟨g0, g1, rfl, k0, k1⟩, h1, h2, h3⟩ := h
  obtain ⟨⟨D, k⟩, sz⟩ := x
  obtain ⟨rfl, cd, gD⟩ := k0
  obtain ⟨az, cz, e⟩ := GRowsAt.form (l := sz.map fun k => ((k : Nat) : Int)) k1
  rw [List.length_map] at e
  subst e
  obtain ⟨v', M', q1, q2, _, q3⟩ := w30 D k cd az cz sz hM gD k1 h1 h2 h3
  exact ⟨v', M', q1, q2, q3⟩
end Go.Proofs.Ytfeabmmgmbddnaa
