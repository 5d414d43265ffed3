/-
  Package order: each of its laws for every argument; no conditions. The last text states which.
-/
import Derived.Test.YtfeabmmgmbddnaaOPB
open Go Go.Am Go.Proofs
namespace Go.Proofs.Ytfeabmmgmbddnaa
set_option maxRecDepth 100000
set_option linter.unusedVariables false
set_option linter.unusedSimpArgs false
theorem dC4 : (Try.prog.underlying 4).map isAggD = some false := by kernel_rfl
theorem dS4 : (Try.prog.info? 4).map (·.size) = some 1 := by kernel_rfl
theorem hS23_25 (B : Bd) : ∀ p ∈ ([(25, pick (Con Try.prog [] 25 Q25))] : List (FuncId × (List Value → Mem → Option (Value × Mem)))), SpecOk Try.prog [] B p.1 p.2 := (fun p hp => by simp only [List.mem_cons, List.not_mem_nil, or_false] at hp; rcases hp with rfl <;> first | exact Con.ok _)
theorem r23_raw (D E n ab bb o m c i p q w : Nat) (x : Int) (cd ce : List Value) (ad : AdjM) (M : Mem) (M3 : Mem) (b14 : Nat) (M15 : Mem) (M25 : Mem) (M34 : Mem) : oR Try.prog [] 60 Try.f23 (q23.loopAt 0) [(1, (.func (.func 25) ⟨[(.agg ⟨[(i64 (((n : Nat) : Int))), (pt ab 0)]⟩)]⟩ ⟨[]⟩)), (5, (sli D 0 m (m + 1))), (6, (sli E 0 801 802)), (18, (sli bb o m c)), (19, (i64 (((m : Nat) : Int)))), (20, (i64 (((i : Nat) : Int))))] M [ttT 2, ttT 4, ttL 6 (i64 x), ttV 14 (i64 (((endsN ad x : Nat) : Int))) M3, ttT 26, ttL 28 (sli D p q w), ttV 32 (sli b14 0 1 2) M15, .at 34 (2, .val (sli D p (q + 1) w), M25), ttT 36, ttS 38 M34] [1, 5, 6, 18, 19, 20] = some (.normal, [some (.func (.func 25) ⟨[(.agg ⟨[(i64 (((n : Nat) : Int))), (pt ab 0)]⟩)]⟩ ⟨[]⟩), some (sli D 0 m (m + 1)), some (sli E 0 801 802), some (sli bb o m c), some (i64 (((m : Nat) : Int))), some (i64 (IntKind.wrap .i64 ((((i : Nat) : Int)) + (1 : Int))))], M34, [qT (decide ((((i : Nat) : Int)) < (((m : Nat) : Int)))), .q (.inb (((i : Nat) : Int)) m) (ansB true), qL 3 bb (o + (((i : Nat) : Int) : Int).toNat * 1) M (i64 x), qC 25 [(.agg ⟨[(i64 (((n : Nat) : Int))), (pt ab 0)]⟩), (i64 x)] M (i64 (((endsN ad x : Nat) : Int))) M3, .q (.inb (((endsN ad x : Nat) : Int)) 801) (ansB true), qL 22 E (0 + (((endsN ad x : Nat) : Int) : Int).toNat * 1) M3 (sli D p q w), .eq (abuildSlice Try.prog 22 1 [(0, (i64 x))] M3) (1, .val (sli b14 0 1 2), M15), .q (.append [22, 22] (sli D p q w) (sli b14 0 1 2) M15) (2, .val (sli D p (q + 1) w), M25), .q (.inb (((endsN ad x : Nat) : Int)) 801) (ansB true), qS 22 E (0 + (((endsN ad x : Nat) : Int) : Int).toNat * 1) (sli D p (q + 1) w) M25 M34]) := by kernel_rfl
theorem r23 (D E n ab bb o m c i p q w : Nat) (x : Int) (cd ce : List Value) (ad : AdjM) {M M0 : Mem} (hM : MemOk M) (X0 : Ext M0 M) (hD : M0.next ≤ D) (hE : M0.next ≤ E) (gD : M.get D = some ⟨cd, 3, 1, 0, true⟩) (gE : M.get E = some ⟨ce, 22, 1, 0, true⟩) (dDE : D ≠ E) (hadj : pAdj 59 ad (pt ab 0) M0) (hok : okA ad) (cc0 : (decide ((((i : Nat) : Int)) < (((m : Nat) : Int)))) = true) (hld0 : aload Try.prog 3 ⟨bb, o + (((i : Nat) : Int) : Int).toNat * 1, none⟩ M0 = some (i64 x)) (hi1 : 0 ≤ (((endsN ad x : Nat) : Int) : Int) ∧ (((endsN ad x : Nat) : Int) : Int) < 801) (hc2 : (ce)[0 + (((endsN ad x : Nat) : Int) : Int).toNat * 1]? = some (sli D p q w)) (hr3 : q + 1 < w ∧ p + (q + 1) * 1 ≤ (cd).length ∧ q < 1073741824) (hof4 : 0 + (((endsN ad x : Nat) : Int) : Int).toNat * 1 + 1 ≤ (ce).length) : ∃ T1 M', Rd Try.prog [] (q23.loopAt 0) Try.f23.ntmps (fr [(1, (.func (.func 25) ⟨[(.agg ⟨[(i64 (((n : Nat) : Int))), (pt ab 0)]⟩)]⟩ ⟨[]⟩)), (5, (sli D 0 m (m + 1))), (6, (sli E 0 801 802)), (18, (sli bb o m c)), (19, (i64 (((m : Nat) : Int)))), (20, (i64 (((i : Nat) : Int))))]) M .normal T1 M' ∧ [1, 5, 6, 18, 19, 20].map T1.get = [some (.func (.func 25) ⟨[(.agg ⟨[(i64 (((n : Nat) : Int))), (pt ab 0)]⟩)]⟩ ⟨[]⟩), some (sli D 0 m (m + 1)), some (sli E 0 801 802), some (sli bb o m c), some (i64 (((m : Nat) : Int))), some (i64 (IntKind.wrap .i64 ((((i : Nat) : Int)) + (1 : Int))))] ∧ Ext M0 M' ∧ MemOk M' ∧ M'.get D = some ⟨(splice cd (p + q * 1) [(i64 x)]), 3, 1, 0, true⟩ ∧ M'.get E = some ⟨(splice ce (0 + (((endsN ad x : Nat) : Int) : Int).toNat * 1) [(sli D p (q + 1) w)]), 22, 1, 0, true⟩ ∧ ∀ id k, M.get id = some k → id ≠ D → id ≠ E → M'.get id = some k := by
  obtain ⟨w1, N2, M3, p4, l5, e6, E7, hM8, F9⟩ := call_fc (x := ((n, ad), x)) hM con25 (⟨⟨_, _, rfl, ⟨_, rfl, AP.Ext (R := (pAdj 59)) hadj X0⟩, rfl⟩, hok⟩)
  have g11 := E7.old gD
  have g12 := E7.old gE
  have ew1 : w1 = (i64 (((endsN ad x : Nat) : Int))) := F9
  subst ew1
  have X13 := X0.trans E7
  obtain ⟨b14, M15, eb16, em17, g18, E19, hM20⟩ := new_t hM8 ⟨[(i64 x)], 3, 1, 0, true⟩
  have nb14 : M0.next ≤ b14 := by rw [← eb16]; exact X13.next
  have dDb14 : D ≠ b14 := by have := Mem.lt_of_get g11; omega
  have dEb14 : E ≠ b14 := by have := Mem.lt_of_get g12; omega
  have g21 := E19.old g11
  have g22 := E19.old g12
  have X24 := X13.trans E19
  obtain ⟨M25, q26, g27, kp28, X29, hM30, nx31⟩ := append_in_t (P := Try.prog) (sT := 22) (xT := 22) (elem := 3) (w := 1) (y := 8) (cx := 2) X24 hD hM20 (by kernel_rfl) (by kernel_rfl) (by kernel_rfl) (by decide) (by decide) hr3.2.2 g18 (ox := 0) (new := [(i64 x)]) rfl rfl rfl g21 (takeN_some (n := q * 1) (k := p) (l := cd) (by have := hr3.2.1; omega)) rfl rfl (Nat.zero_le _) hr3.1 hr3.2.1
  replace g27 : M25.get D = some ⟨splice cd (p + q * 1) [(i64 x)], 3, 1, 0, true⟩ := g27
  have g32 := (kp28 _ (Ne.symm dDE)).trans g22
  obtain ⟨M34, q35, g36, kp37, X38, hM39, nx40⟩ := store_t (o := 0 + (((endsN ad x : Nat) : Int) : Int).toNat * 1) (v := (sli D p (q + 1) w)) (new := splice ce (0 + (((endsN ad x : Nat) : Int) : Int).toNat * 1) [(sli D p (q + 1) w)]) X29 hE hM30 dS22 g32 rfl rfl (Nat.zero_le _) hof4 rfl
  replace g36 : M34.get E = some ⟨splice ce (0 + (((endsN ad x : Nat) : Int) : Int).toNat * 1) [(sli D p (q + 1) w)], 22, 1, 0, true⟩ := g36
  have g41 := (kp37 _ dDE).trans g27
  have hraw := r23_raw D E n ab bb o m c i p q w x cd ce ad M  M3 b14 M15 M25 M34
  have hkp : ∀ id k, M.get id = some k → id ≠ D → id ≠ E → M34.get id = some k := fun id k g h_D h_E => by
    have g0 := Mem.lt_of_get g
    have g := E7.old g
    have g := E19.old g
    have g := ((fun id h _ => kp28 id h) id h_D (Mem.lt_of_get g)).trans g
    have g := ((fun id h _ => kp37 id h) id h_E (Mem.lt_of_get g)).trans g
    exact g
  obtain ⟨T1, h1, h2⟩ := Rd.told noNumP mixedP (fun B => specsB_ok (k := []) (hS23_25 B) (fun p hp => by cases hp)) (fun _ _ => rfl) hraw (hk (bT cc0) (hk (q_inb (by omega) (by simp at cc0; omega)) (hk (q_ld (aload_ext X0 hld0)) (hk (q_call rfl p4 l5 e6) (hk (q_inb hi1.1 hi1.2) (hk (q_ld (aload_cell (a := ⟨E, 0 + (((endsN ad x : Nat) : Int) : Int).toNat * 1, none⟩) dC22 g12 hc2)) (hk (q_eq (by rw [← eb16, ← em17]; kernel_rfl) Nat.one_ne_zero) (hk (q_app q26 (Nat.succ_ne_zero _)) (hk (q_inb hi1.1 hi1.2) (hk (q_st q35) hn))))))))))
  exact ⟨T1, M34, h1, h2, X38, hM39, g41, g36, hkp⟩
theorem r23x_raw (D E n ab : Nat) (a : Option Addr) (m c i : Nat) (M : Mem)  : oR Try.prog [] 60 Try.f23 (q23.loopAt 0) [(1, (.func (.func 25) ⟨[(.agg ⟨[(i64 (((n : Nat) : Int))), (pt ab 0)]⟩)]⟩ ⟨[]⟩)), (5, (sli D 0 m (m + 1))), (6, (sli E 0 801 802)), (18, (.slice a m c)), (19, (i64 (((m : Nat) : Int)))), (20, (i64 (((i : Nat) : Int))))] M [ttF 2] [5] = some ((.exit 0), [some (sli D 0 m (m + 1))], M, [qF (decide ((((i : Nat) : Int)) < (((m : Nat) : Int))))]) := by kernel_rfl
theorem r23x (D E n ab : Nat) (a : Option Addr) (m c i : Nat) {M : Mem} (cc0 : (decide ((((i : Nat) : Int)) < (((m : Nat) : Int)))) = false) : ∃ T1, Rd Try.prog [] (q23.loopAt 0) Try.f23.ntmps (fr [(1, (.func (.func 25) ⟨[(.agg ⟨[(i64 (((n : Nat) : Int))), (pt ab 0)]⟩)]⟩ ⟨[]⟩)), (5, (sli D 0 m (m + 1))), (6, (sli E 0 801 802)), (18, (.slice a m c)), (19, (i64 (((m : Nat) : Int)))), (20, (i64 (((i : Nat) : Int))))]) M (.exit 0) T1 M ∧ [5].map T1.get = [some (sli D 0 m (m + 1))] := by
  have hraw := r23x_raw D E n ab a m c i M  
  obtain ⟨T1, h1, h2⟩ := Rd.told noNumP mixedP (specs_none Try.prog) (fun _ _ => rfl) hraw (hk (bF cc0) hn)
  exact ⟨T1, h1, h2⟩
theorem loop23 {a : Option Addr} {c D E n ab : Nat} {ad : AdjM} {vs : List Int} {M0 M : Mem} (hM : MemOk M) (X : Ext M0 M) (hs : pInts vs (.slice a vs.length c) M0) (hadj : pAdj 59 ad (pt ab 0) M0) (hok : okA ad) (hl : vs.length ≤ 60) (hD : M0.next ≤ D) (hE : M0.next ≤ E) (dDE : D ≠ E) (gE : M.get E = some ⟨rowCells D (cOf (tallyN ad vs)) (fun _ => 0) 801, 22, 1, 0, true⟩) (gD : M.get D = some ⟨List.replicate vs.length (i64 0), 3, 1, 0, true⟩) :
    ∃ M', LoopR Try.prog [] (q23.loopAt 0) Try.f23.ntmps (fr [(1, (.func (.func 25) ⟨[(.agg ⟨[(i64 (((n : Nat) : Int))), (pt ab 0)]⟩)]⟩ ⟨[]⟩)), (5, sli D 0 vs.length (vs.length + 1)), (6, sli E 0 801 802), (18, .slice a vs.length c), (19, i64 ((vs.length : Nat) : Int)), (20, i64 ((0 : Nat) : Int))]) M (.exit 0) (fr [(5, sli D 0 vs.length (vs.length + 1))]) M' ∧ Ext M0 M' ∧ MemOk M' ∧ M'.get D = some ⟨(sortedI ad vs).map i64, 3, 1, 0, true⟩ := by
  have hall := tally_sum hok vs
  obtain ⟨_, M', h1, h2, h3, h4, mem, h5, h6⟩ := LoopR.for (P := Try.prog) (GL := []) (b := q23.loopAt 0) (nt := Try.f23.ntmps) (id := 0) (σ := Unit) (n := vs.length) (Inv := fun i _ M1 => Ext M0 M1 ∧ MemOk M1 ∧ M1.get E = some ⟨rowCells D (cOf (tallyN ad vs)) (cnt (keyV ad vs) i) 801, 22, 1, 0, true⟩ ∧ ∃ mem, M1.get D = some ⟨mem, 3, 1, 0, true⟩ ∧ Bk (cOf (tallyN ad vs)) 801 (keyV ad vs) (fun j => i64 ((vs[j]?).getD 0)) i mem)
    (F := fun i _ => [(1, (.func (.func 25) ⟨[(.agg ⟨[(i64 (((n : Nat) : Int))), (pt ab 0)]⟩)]⟩ ⟨[]⟩)), (5, sli D 0 vs.length (vs.length + 1)), (6, sli E 0 801 802), (18, .slice a vs.length c), (19, i64 ((vs.length : Nat) : Int)), (20, i64 ((i : Nat) : Int))])
    (O := fun _ => [(5, sli D 0 vs.length (vs.length + 1))])
    (by
      rintro i _ M1 hi ⟨X1, hM1, hg1, mem, hg2, hB⟩
      obtain ⟨bb, o, rfl, _⟩ := form_pos hs (by omega)
      have ht : vs[i]? = some vs[i] := List.getElem?_eq_getElem hi
      have hk : endsN ad vs[i] = keyV ad vs i := by unfold keyV; rw [ht]; rfl
      have hle := endsN_le hok vs[i]
      have hkl : keyV ad vs i < 801 := by omega
      have hlt : cnt (keyV ad vs) i (keyV ad vs i) < cOf (tallyN ad vs) (keyV ad vs i) := by rw [cOf_tally hkl]; exact cnt_lt (keyV ad vs) hi
      have hroom := hB.room hkl hlt
      have hc := cnt_le (keyV ad vs) i (keyV ad vs i)
      have e0 : 0 + (((endsN ad vs[i] : Nat) : Int) : Int).toNat * 1 = keyV ad vs i := by rw [hk]; simp
      obtain ⟨T1, M2, h1, h2, h3, h4, h5, h6, _⟩ := r23 D E n ab bb o vs.length c i (offS (cOf (tallyN ad vs)) (keyV ad vs i)) (cnt (keyV ad vs) i (keyV ad vs i)) (cOf (tallyN ad vs) (keyV ad vs i) + 1) vs[i] _ _ ad hM1 X1 hD hE hg2 hg1 dDE hadj hok (decide_eq_true (by omega)) (ld_one (P := Try.prog) (ty := 3) hs ht rfl dC3) (by omega) (by rw [e0]; exact rowCells_get _ _ _ hkl) ⟨by omega, by omega, by omega⟩ (by rw [e0, rowCells_len]; omega)
      rw [wrap_succ (by omega)] at h2
      rw [e0, rowCells_step D _ (keyV ad vs) i 801 hkl] at h6
      have hst := hB.step hkl hlt
      simp only [ht, Option.getD_some] at hst
      rw [show offS (cOf (tallyN ad vs)) (keyV ad vs i) + cnt (keyV ad vs) i (keyV ad vs i) = offS (cOf (tallyN ad vs)) (keyV ad vs i) + cnt (keyV ad vs) i (keyV ad vs i) * 1 by omega] at hst
      exact ⟨(), T1, M2, h1, h2, h3, h4, h6, _, h5, hst⟩)
    (by
      rintro _ M1 ⟨X1, hM1, _⟩
      exact r23x D E n ab a vs.length c vs.length (M := M1) (decide_eq_false (by omega)))
    vs.length 0 (by omega) (s := ()) (M := M) ⟨X, hM, gE, _, gD, Bk.zero (by rw [hall]; simp)⟩
  refine ⟨M', h1, h2, h3, ?_⟩
  rw [h5, sorted_of h6]
theorem rK23 : Try.f23.results = #[.tmp 4] := by kernel_rfl
theorem hS23_30_31 (B : Bd) : ∀ p ∈ ([(30, pick (Con Try.prog [] 30 Q30)), (31, pick (Con Try.prog [] 31 Q31))] : List (FuncId × (List Value → Mem → Option (Value × Mem)))), SpecOk Try.prog [] B p.1 p.2 := (fun p hp => by simp only [List.mem_cons, List.not_mem_nil, or_false] at hp; rcases hp with rfl | rfl <;> first | exact Con.ok _)
theorem w23_raw (n ab : Nat) (ad : AdjM) (av : Option Addr) (cv : Nat) (vs : List Int) (M : Mem) (b1 : Nat) (M2 : Mem) (a9 : Option Addr) (c10 : Nat) (M14 : Mem) (b24 : Nat) (M27 : Mem) (M38 : Mem) : oT Try.prog [0] 60 Try.f23 q23 [(.slice av vs.length cv), (.func (.func 25) ⟨[(.agg ⟨[(i64 (((n : Nat) : Int))), (pt ab 0)]⟩)]⟩ ⟨[]⟩)] M [ttT 5, ttV 7 (sli b1 0 vs.length (vs.length + 1)) M2, ttV 17 (.slice a9 801 c10) M14, ttV 19 (sli b24 0 801 802) M27, ttT 25, .blk 28 [1, 5, 6, 18, 19, 20] .normal (fr [(5, (sli b1 0 vs.length (vs.length + 1)))]) M38] 4 = some (.ret, some (sli b1 0 vs.length (vs.length + 1)), M38, [.ln av vs.length cv, .eq (amakeSlice Try.prog 22 (i64 (((vs.length : Nat) : Int))) (i64 (((vs.length : Nat) : Int))) M) (1, .val (sli b1 0 vs.length (vs.length + 1)), M2), qC 31 [(.slice av vs.length cv), (.func (.func 25) ⟨[(.agg ⟨[(i64 (((n : Nat) : Int))), (pt ab 0)]⟩)]⟩ ⟨[]⟩)] M2 (.slice a9 801 c10) M14, qC 30 [(sli b1 0 vs.length (vs.length + 1)), (.slice a9 801 c10)] M14 (sli b24 0 801 802) M27, .ln av vs.length cv, .blk 0 (.loop (q23.loopAt 0)) Try.f23.ntmps [1, 5, 6, 18, 19, 20] [some (.func (.func 25) ⟨[(.agg ⟨[(i64 (((n : Nat) : Int))), (pt ab 0)]⟩)]⟩ ⟨[]⟩), some (sli b1 0 vs.length (vs.length + 1)), some (sli b24 0 801 802), some (.slice av vs.length cv), some (i64 (((vs.length : Nat) : Int))), some (i64 0)] M27 .normal (fr [(5, (sli b1 0 vs.length (vs.length + 1)))]) M38]) := by kernel_rfl
theorem w23 (n ab : Nat) (ad : AdjM) (av : Option Addr) (cv : Nat) (vs : List Int) {M : Mem} (hM : MemOk M) (hvs : pInts vs (.slice av vs.length cv) M) (hadj : pAdj 59 ad (pt ab 0) M) (hok : okA ad) (hl60 : vs.length ≤ 60) : ∃ v_ M', Ev Try.prog [] 23 [(.slice av vs.length cv), (.func (.func 25) ⟨[(.agg ⟨[(i64 (((n : Nat) : Int))), (pt ab 0)]⟩)]⟩ ⟨[]⟩)] M v_ M' ∧ Ext M M' ∧ MemOk M' ∧ newR pInts (sortedI ad vs) M.next v_ M' := by
  obtain ⟨b1, M2, eb3, em4, g5, E6, hM7⟩ := mks_t (P := Try.prog) (t := 22) (elem := 3) (z := (i64 0)) (n := vs.length) hM (by kernel_rfl) (by kernel_rfl) (by omega)
  have nb1 : M.next ≤ b1 := by rw [← eb3]; exact (Ext.refl M).next
  have X8 := (Ext.refl M).trans E6
  have ltb1M14 := Mem.lt_of_get g5
  obtain ⟨w12, N13, M14, p15, l16, e17, E18, hM19, F20⟩ := call_fc (x := (vs, n, ad)) hM7 con31 (⟨⟨_, _, rfl, AP.Ext (R := pInts) hvs X8, _, rfl, _, rfl, AP.Ext (R := (pAdj 59)) hadj X8⟩, hok, hl60⟩)
  have nx21 := E18.next
  have g22 := E18.old g5
  have G11 : pNats (tallyN ad vs) w12 (hidx [(0, M2.next)] M14) := hx_of F20
  obtain ⟨a9, c10, ew12⟩ := GRowsAt.form (l := (tallyN ad vs).map fun k => ((k : Nat) : Int)) G11
  rw [List.length_map, tallyN_len] at ew12
  subst ew12
  have X23 := X8.trans E18
  have ltb1M27 := Mem.lt_of_get g22
  obtain ⟨w25, N26, M27, p28, l29, e30, E31, hM32, F33⟩ := call_fc (x := ((b1, vs.length), tallyN ad vs)) hM19 con30 (⟨⟨_, _, rfl, ⟨rfl, _, g22⟩, hx_out (R := pNats) G11⟩, by rw [tallyN_len]; exact Nat.le_refl _, by rw [tallyN_len, tally_sum hok]; exact Nat.le_refl _, hl60⟩)
  have nx34 := E31.next
  have g36 := E31.old g22
  obtain ⟨b24, ew25, nb24, gb24⟩ := F33
  simp only [id, tallyN_len] at ew25 gb24
  subst ew25
  have db1b24 : b1 ≠ b24 := by have := Mem.lt_of_get g22; omega
  have nb24 := Nat.le_trans (X23).next nb24
  have X37 := X23.trans E31
  obtain ⟨M38, hL39, X40, hM41, g42⟩ := loop23 hM32 X37 hvs hadj hok hl60 nb1 nb24 db1b24 gb24 g36
  have hraw := w23_raw n ab ad av cv vs M  b1 M2 a9 c10 M14 b24 M27 M38
  exact ⟨(sli b1 0 vs.length (vs.length + 1)), M38, Ev.told_tmp noNumP mixedP Try.func23 q23_ok (by kernel_rfl) rK23 (fun B => specsB_ok (hS23_30_31 B) (k := [(0, bone (.loop (q23.loopAt 0)) Try.f23.ntmps [1, 5, 6, 18, 19, 20] [some (.func (.func 25) ⟨[(.agg ⟨[(i64 (((n : Nat) : Int))), (pt ab 0)]⟩)]⟩ ⟨[]⟩), some (sli b1 0 vs.length (vs.length + 1)), some (sli b24 0 801 802), some (.slice av vs.length cv), some (i64 (((vs.length : Nat) : Int))), some (i64 0)] M27 .normal (fr [(5, (sli b1 0 vs.length (vs.length + 1)))]) M38)]) (fun p hp => by simp only [List.mem_cons, List.not_mem_nil, or_false] at hp; rcases hp with rfl <;> first | exact BlkOk.loop noNumP mixedP hL39)) (fun _ h => blksF_one h) hraw (hk (lN hvs.ln) (hk (q_eq em4 Nat.one_ne_zero) (hk (q_call rfl p15 l16 e17) (hk (q_call rfl p28 l29 e30) (hk (lN hvs.ln) (hk (q_blk rfl) hn)))))), X40, hM41, GRowsAt.of_blk' (b := b1) (w := 1) (g := iRow) (hid_of nb1 g42) (sortedI_len hok vs) (flat1 _).symm (fun _ _ => rfl) (by rw [sortedI_len hok]; omega)⟩
abbrev Q23 := FC (asP (as2 pInts (pCount 25 59)) fun x => okA x.2.2 ∧ x.1.length ≤ 60) (newR pInts) (fun x => sortedI x.2.2 x.1)
theorem con23 {x : List Int × Nat × AdjM} {lv : List Value} {M : Mem} (hM : MemOk M) (h : (asP (as2 pInts (pCount 25 59)) fun x : List Int × Nat × AdjM => okA x.2.2 ∧ x.1.length ≤ 60) x lv M) : ∃ v M', Con Try.prog [] 23 Q23 lv M v M' := by
  refine FC.con h ?_
  obtain ⟨⟨g0, g1, rfl, k0, k1⟩, hok, hl⟩ := h
  obtain ⟨vs, n, ad⟩ := x
  obtain ⟨av, cv, rfl⟩ := GRowsAt.form k0
  obtain ⟨s, rfl, p, rfl, hadj⟩ := k1
  obtain ⟨ab, o, i_, t, s, rfl, gab, hout, hinn, hto, hset⟩ := id hadj
  obtain ⟨v', M', h1, h2, _, h3⟩ := w23 n ab ad av cv vs hM k0 hadj hok hl
  exact ⟨v', M', h1, h2, h3⟩
theorem hS10_21 (B : Bd) : ∀ p ∈ ([(21, pick (Con Try.prog [] 21 Q21))] : List (FuncId × (List Value → Mem → Option (Value × Mem)))), SpecOk Try.prog [] B p.1 p.2 := (fun p hp => by simp only [List.mem_cons, List.not_mem_nil, or_false] at hp; rcases hp with rfl <;> first | exact Con.ok _)
theorem r10_raw (b R n ab i : Nat) (cr : List Value) (ad : AdjM) (M : Mem) (M3 : Mem) (M14 : Mem) : oR Try.prog [] 60 Try.f10 (q10.loopAt 0) [(3, (pt b 0)), (4, (sli R 0 n (n + 1))), (12, (i64 (((n : Nat) : Int)))), (13, (i64 (((i : Nat) : Int))))] M [ttT 2, ttL 12 (.agg ⟨[(i64 (((n : Nat) : Int))), (pt ab 0)]⟩), ttV 16 (.bool (linkB ad (((i : Nat) : Int)))) M3, ttT 18, ttS 20 M14] [3, 4, 12, 13] = some (.normal, [some (pt b 0), some (sli R 0 n (n + 1)), some (i64 (((n : Nat) : Int))), some (i64 (IntKind.wrap .i64 ((((i : Nat) : Int)) + (1 : Int))))], M14, [qT (decide ((((i : Nat) : Int)) < (((n : Nat) : Int)))), qL 46 b 0 M (.agg ⟨[(i64 (((n : Nat) : Int))), (pt ab 0)]⟩), qC 21 [(.agg ⟨[(i64 (((n : Nat) : Int))), (pt ab 0)]⟩), (i64 (((i : Nat) : Int)))] M (.bool (linkB ad (((i : Nat) : Int)))) M3, .q (.inb (((i : Nat) : Int)) n) (ansB true), qS 4 R (0 + (((i : Nat) : Int) : Int).toNat * 1) (.bool (linkB ad (((i : Nat) : Int)))) M3 M14]) := by kernel_rfl
theorem r10 (b R n ab i : Nat) (cr : List Value) (ad : AdjM) {M M0 : Mem} (hM : MemOk M) (X0 : Ext M0 M) (gb : M.get b = some ⟨[i64 ((n : Nat) : Int), pt ab 0], 46, 2, 0, true⟩) (hR : M0.next ≤ R) (gR : M.get R = some ⟨cr, 4, 1, 0, true⟩) (dbR : b ≠ R) (hadj : pAdj 59 ad (pt ab 0) M0) (hok : okA ad) (cc0 : (decide ((((i : Nat) : Int)) < (((n : Nat) : Int)))) = true) (hof0 : 0 + (((i : Nat) : Int) : Int).toNat * 1 + 1 ≤ (cr).length) : ∃ T1 M', Rd Try.prog [] (q10.loopAt 0) Try.f10.ntmps (fr [(3, (pt b 0)), (4, (sli R 0 n (n + 1))), (12, (i64 (((n : Nat) : Int)))), (13, (i64 (((i : Nat) : Int))))]) M .normal T1 M' ∧ [3, 4, 12, 13].map T1.get = [some (pt b 0), some (sli R 0 n (n + 1)), some (i64 (((n : Nat) : Int))), some (i64 (IntKind.wrap .i64 ((((i : Nat) : Int)) + (1 : Int))))] ∧ Ext M0 M' ∧ MemOk M' ∧ M'.get b = some ⟨[(i64 (((n : Nat) : Int))), (pt ab 0)], 46, 2, 0, true⟩ ∧ M'.get R = some ⟨(splice cr (0 + (((i : Nat) : Int) : Int).toNat * 1) [(.bool (linkB ad (((i : Nat) : Int))))]), 4, 1, 0, true⟩ ∧ ∀ id k, M.get id = some k → id ≠ b → id ≠ R → M'.get id = some k := by
  obtain ⟨w1, N2, M3, p4, l5, e6, E7, hM8, F9⟩ := call_fc (x := ((n, ad), (((i : Nat) : Int)))) hM con21 (⟨⟨_, _, rfl, ⟨_, rfl, AP.Ext (R := (pAdj 59)) hadj X0⟩, rfl⟩, hok⟩)
  have g11 := E7.old gb
  have g12 := E7.old gR
  have ew1 : w1 = (.bool (linkB ad (((i : Nat) : Int)))) := F9
  subst ew1
  have X13 := X0.trans E7
  obtain ⟨M14, q15, g16, kp17, X18, hM19, nx20⟩ := store_t (o := 0 + (((i : Nat) : Int) : Int).toNat * 1) (v := (.bool (linkB ad (((i : Nat) : Int))))) (new := splice cr (0 + (((i : Nat) : Int) : Int).toNat * 1) [(.bool (linkB ad (((i : Nat) : Int))))]) X13 hR hM8 dS4 g12 rfl rfl (Nat.zero_le _) hof0 rfl
  replace g16 : M14.get R = some ⟨splice cr (0 + (((i : Nat) : Int) : Int).toNat * 1) [(.bool (linkB ad (((i : Nat) : Int))))], 4, 1, 0, true⟩ := g16
  have g21 := (kp17 _ dbR).trans g11
  have hraw := r10_raw b R n ab i cr ad M  M3 M14
  have hkp : ∀ id k, M.get id = some k → id ≠ b → id ≠ R → M14.get id = some k := fun id k g h_b h_R => by
    have g0 := Mem.lt_of_get g
    have g := E7.old g
    have g := ((fun id h _ => kp17 id h) id h_R (Mem.lt_of_get g)).trans g
    exact g
  obtain ⟨T1, h1, h2⟩ := Rd.told noNumP mixedP (fun B => specsB_ok (k := []) (hS10_21 B) (fun p hp => by cases hp)) (fun _ _ => rfl) hraw (hk (bT cc0) (hk (lA ⟨dA46, dS46⟩ gb rfl) (hk (q_call rfl p4 l5 e6) (hk (q_inb (by omega) (by simp at cc0; omega)) (hk (q_st q15) hn)))))
  exact ⟨T1, M14, h1, h2, X18, hM19, g21, g16, hkp⟩
theorem r10x_raw (b R n i : Nat) (M : Mem)  : oR Try.prog [] 60 Try.f10 (q10.loopAt 0) [(3, (pt b 0)), (4, (sli R 0 n (n + 1))), (12, (i64 (((n : Nat) : Int)))), (13, (i64 (((i : Nat) : Int))))] M [ttF 2] [4] = some ((.exit 0), [some (sli R 0 n (n + 1))], M, [qF (decide ((((i : Nat) : Int)) < (((n : Nat) : Int))))]) := by kernel_rfl
theorem r10x (b R n i : Nat) {M : Mem} (cc0 : (decide ((((i : Nat) : Int)) < (((n : Nat) : Int)))) = false) : ∃ T1, Rd Try.prog [] (q10.loopAt 0) Try.f10.ntmps (fr [(3, (pt b 0)), (4, (sli R 0 n (n + 1))), (12, (i64 (((n : Nat) : Int)))), (13, (i64 (((i : Nat) : Int))))]) M (.exit 0) T1 M ∧ [4].map T1.get = [some (sli R 0 n (n + 1))] := by
  have hraw := r10x_raw b R n i M  
  obtain ⟨T1, h1, h2⟩ := Rd.told noNumP mixedP (specs_none Try.prog) (fun _ _ => rfl) hraw (hk (bF cc0) hn)
  exact ⟨T1, h1, h2⟩
end Go.Proofs.Ytfeabmmgmbddnaa
