/-
  Package adj: each of its laws for every argument; no conditions. The last text states which.
-/
import Derived.Test.YtipnhelkganmdaaU3
open Go Go.Am Go.Proofs
namespace Go.Proofs.Ytipnhelkganmdaa
set_option maxRecDepth 100000
set_option linter.unusedVariables false
set_option linter.unusedSimpArgs false
theorem r16c_raw (b n c i : Nat) (S : Value) (l : List Int) (m : List Bool) (M : Mem) (z0 : Bool) (b1 : Nat) (M2 : Mem) (t12 : Bool) (S13 : Value) (M14 : Mem) : oR Try.prog [] 100 Try.f16 (q16.loopAt 0) [(8, S), (22, (sli b 0 n c)), (23, (i64 (((n : Nat) : Int)))), (24, (i64 (((i : Nat) : Int))))] M [ttT 2, ttT 6, ttL 8 (.bool z0), ttT 15, ttV 21 (sli b1 0 1 2) M2, .at 23 ((bif t12 then 1 else 2), .val S13, M14)] [8, 22, 23, 24] = some (.normal, [some S13, some (sli b 0 n c), some (i64 (((n : Nat) : Int))), some (i64 (IntKind.wrap .i64 ((((i : Nat) : Int)) + (1 : Int))))], M14, [qT (decide ((((i : Nat) : Int)) < (((n : Nat) : Int)))), .q (.inb (((i : Nat) : Int)) n) (ansB true), qL 4 b (0 + (((i : Nat) : Int) : Int).toNat * 1) M (.bool z0), qT z0, .eq (abuildSlice Try.prog 22 1 [(0, (i64 (((i : Nat) : Int))))] M) (1, .val (sli b1 0 1 2), M2), .q (.append [22, 22] S (sli b1 0 1 2) M2) ((bif t12 then 1 else 2), .val S13, M14)]) := by cases t12 <;> kernel_rfl
theorem r16c (b n c i : Nat) (S : Value) (l : List Int) (m : List Bool) (z0 : Bool) {M M0 : Mem} (hM : MemOk M) (X0 : Ext M0 M) (gb : M.get b = some ⟨m.map Value.bool, 4, 1, 0, true⟩) (hA : AccC 3 1 M0 [b] l.length (l.map i64) S M) (hl30 : l.length < 1073741824) (cc0 : (decide ((((i : Nat) : Int)) < (((n : Nat) : Int)))) = true) (cc1 : (z0) = true) (hc0 : ((m.map Value.bool))[0 + (((i : Nat) : Int) : Int).toNat * 1]? = some (.bool z0)) : ∃ T1 M' S13, Rd Try.prog [] (q16.loopAt 0) Try.f16.ntmps (fr [(8, S), (22, (sli b 0 n c)), (23, (i64 (((n : Nat) : Int)))), (24, (i64 (((i : Nat) : Int))))]) M .normal T1 M' ∧ [8, 22, 23, 24].map T1.get = [some S13, some (sli b 0 n c), some (i64 (((n : Nat) : Int))), some (i64 (IntKind.wrap .i64 ((((i : Nat) : Int)) + (1 : Int))))] ∧ Ext M0 M' ∧ MemOk M' ∧ M'.get b = some ⟨(m.map Value.bool), 4, 1, 0, true⟩ ∧ AccC 3 1 M0 [b] (l.length + 1) ((l.map i64) ++ [(i64 (((i : Nat) : Int)))]) S13 M' := by
  obtain ⟨b1, M2, eb3, em4, g5, E6, hM7⟩ := new_t hM ⟨[(i64 (((i : Nat) : Int)))], 3, 1, 0, true⟩
  have nb1 : M0.next ≤ b1 := by rw [← eb3]; exact X0.next
  have dbb1 : b ≠ b1 := by have := Mem.lt_of_get gb; omega
  have A8 := hA.new eb3 E6
  have g9 := E6.old gb
  have nx10 := E6.next
  have X11 := X0.trans E6
  obtain ⟨t12, S13, M14, q15, X16, hM17, A18, kb19, ka20⟩ := accc_append (P := Try.prog) (sT := 22) (xT := 22) (y := 8) (c := 2) A8 X11 hM7 (by intro x hx; simp only [List.mem_cons, List.not_mem_nil, or_false] at hx; rcases hx with rfl | rfl <;> first | exact Mem.lt_of_get g5 | exact Mem.lt_of_get g9) (by kernel_rfl) (by kernel_rfl) (by kernel_rfl) (by kernel_rfl) (by decide) (by decide) rfl hl30 g5 (o := 0) (new := [(i64 (((i : Nat) : Int)))]) rfl rfl rfl
  have g21 := kb19 _ _ g9 (by simp)
  have g22 := kb19 _ _ g5 (by simp)
  have hraw := r16c_raw b n c i S l m M z0 b1 M2 t12 S13 M14
  obtain ⟨T1, h1, h2⟩ := Rd.told noNumP mixedP (specs_none Try.prog) (fun _ _ => rfl) hraw (hk (bT cc0) (hk (q_inb (by omega) (by simp at cc0; omega)) (hk (q_ld (aload_cell (a := ⟨b, 0 + (((i : Nat) : Int) : Int).toNat * 1, none⟩) dC4 gb hc0)) (hk (bT cc1) (hk (q_eq (by rw [← eb3, ← em4]; kernel_rfl) Nat.one_ne_zero) (hk (q_app q15 (by cases t12 <;> simp)) hn))))))
  exact ⟨T1, M14, S13, h1, h2, X16, hM17, g21, A18.less (by intro x hx; simp only [List.mem_cons, List.not_mem_nil, or_false] at hx; subst hx; simp)⟩
theorem r16n_raw (b n c i : Nat) (S : Value) (l : List Int) (m : List Bool) (M : Mem) (z0 : Bool)  : oR Try.prog [] 60 Try.f16 (q16.loopAt 0) [(8, S), (22, (sli b 0 n c)), (23, (i64 (((n : Nat) : Int)))), (24, (i64 (((i : Nat) : Int))))] M [ttT 2, ttT 6, ttL 8 (.bool z0), ttF 15] [8, 22, 23, 24] = some (.normal, [some S, some (sli b 0 n c), some (i64 (((n : Nat) : Int))), some (i64 (IntKind.wrap .i64 ((((i : Nat) : Int)) + (1 : Int))))], M, [qT (decide ((((i : Nat) : Int)) < (((n : Nat) : Int)))), .q (.inb (((i : Nat) : Int)) n) (ansB true), qL 4 b (0 + (((i : Nat) : Int) : Int).toNat * 1) M (.bool z0), qF z0]) := by kernel_rfl
theorem r16n (b n c i : Nat) (S : Value) (l : List Int) (m : List Bool) (z0 : Bool) {M : Mem} {M0 : Mem} (X0 : Ext M0 M) (gb : M.get b = some ⟨m.map Value.bool, 4, 1, 0, true⟩) (cc0 : (decide ((((i : Nat) : Int)) < (((n : Nat) : Int)))) = true) (cc1 : (z0) = false) (hc0 : ((m.map Value.bool))[0 + (((i : Nat) : Int) : Int).toNat * 1]? = some (.bool z0)) : ∃ T1, Rd Try.prog [] (q16.loopAt 0) Try.f16.ntmps (fr [(8, S), (22, (sli b 0 n c)), (23, (i64 (((n : Nat) : Int)))), (24, (i64 (((i : Nat) : Int))))]) M .normal T1 M ∧ [8, 22, 23, 24].map T1.get = [some S, some (sli b 0 n c), some (i64 (((n : Nat) : Int))), some (i64 (IntKind.wrap .i64 ((((i : Nat) : Int)) + (1 : Int))))] := by
  have hraw := r16n_raw b n c i S l m M z0 
  obtain ⟨T1, h1, h2⟩ := Rd.told noNumP mixedP (specs_none Try.prog) (fun _ _ => rfl) hraw (hk (bT cc0) (hk (q_inb (by omega) (by simp at cc0; omega)) (hk (q_ld (aload_cell (a := ⟨b, 0 + (((i : Nat) : Int) : Int).toNat * 1, none⟩) dC4 gb hc0)) (hk (bF cc1) hn))))
  exact ⟨T1, h1, h2⟩
theorem r16x_raw (b n c i : Nat) (S : Value) (M : Mem)  : oR Try.prog [] 60 Try.f16 (q16.loopAt 0) [(8, S), (22, (sli b 0 n c)), (23, (i64 (((n : Nat) : Int)))), (24, (i64 (((i : Nat) : Int))))] M [ttF 2] [8] = some ((.exit 0), [some S], M, [qF (decide ((((i : Nat) : Int)) < (((n : Nat) : Int))))]) := by kernel_rfl
theorem r16x (b n c i : Nat) (S : Value) {M : Mem} (cc0 : (decide ((((i : Nat) : Int)) < (((n : Nat) : Int)))) = false) : ∃ T1, Rd Try.prog [] (q16.loopAt 0) Try.f16.ntmps (fr [(8, S), (22, (sli b 0 n c)), (23, (i64 (((n : Nat) : Int)))), (24, (i64 (((i : Nat) : Int))))]) M (.exit 0) T1 M ∧ [8].map T1.get = [some S] := by
  have hraw := r16x_raw b n c i S M  
  obtain ⟨T1, h1, h2⟩ := Rd.told noNumP mixedP (specs_none Try.prog) (fun _ _ => rfl) hraw (hk (bF cc0) hn)
  exact ⟨T1, h1, h2⟩
theorem acc_newI {M0 M : Mem} {S : Value} {l : List Int} {bad : List Nat} {n0 : Nat} (h : AccC 3 1 M0 bad l.length (l.map i64) S M) (hl : l.length ≤ 9223372036854775807) (hn : n0 ≤ M0.next) : pInts l S (hid n0 M) := by
  rcases h with ⟨rfl, h0, _⟩ | ⟨b, rfl, _, _, h3, h5, h6⟩
  · rw [List.eq_nil_of_length_eq_zero h0]; exact GRowsAt.nil none
  · exact GRowsAt.of_blk' (hid_of (by omega) h6) rfl (flat1 l).symm (fun _ _ => rfl) hl
theorem loop16 {b n c : Nat} {m : List Bool} {M0 M : Mem} (hM : MemOk M) (X : Ext M0 M) (gb : M.get b = some ⟨m.map Value.bool, 4, 1, 0, true⟩) (hml : m.length = n) (hn : n ≤ 60) :
    ∃ S M', LoopR Try.prog [] (q16.loopAt 0) Try.f16.ntmps (fr [(8, sln), (22, sli b 0 n c), (23, i64 ((n : Nat) : Int)), (24, i64 ((0 : Nat) : Int))]) M (.exit 0) (fr [(8, S)]) M' ∧ Ext M0 M' ∧ MemOk M' ∧ pInts (trueTo m n) S (hid M0.next M') := by
  obtain ⟨S, M', h1, h2, h3, _, h4⟩ := LoopR.for (P := Try.prog) (GL := []) (b := q16.loopAt 0) (nt := Try.f16.ntmps) (id := 0) (σ := Value) (n := n)
    (Inv := fun i S M1 => Ext M0 M1 ∧ MemOk M1 ∧ M1.get b = some ⟨m.map Value.bool, 4, 1, 0, true⟩ ∧ AccC 3 1 M0 [b] (trueTo m i).length ((trueTo m i).map i64) S M1)
    (F := fun i S => [(8, S), (22, sli b 0 n c), (23, i64 ((n : Nat) : Int)), (24, i64 ((i : Nat) : Int))])
    (O := fun S => [(8, S)])
    (by
      rintro i S M1 hi ⟨X1, hM1, g1, hA⟩
      have hl := trueTo_len m i
      have hu : m[i]? = some m[i] := List.getElem?_eq_getElem (by omega)
      rw [trueTo_succ]
      cases hz : m[i] with
      | true =>
        rw [hz] at hu
        have hcell : (m.map Value.bool)[0 + (((i : Nat) : Int)).toNat * 1]? = some (.bool true) := by rw [Nat.zero_add, Nat.mul_one, Int.toNat_natCast, List.getElem?_map, hu]; rfl
        obtain ⟨T1, M2, S2, h1, h2, h3, h4, h5, h6⟩ := r16c b n c i S (trueTo m i) m true hM1 X1 g1 hA (by omega) (decide_eq_true (by omega)) rfl hcell
        rw [wrap_succ (by omega)] at h2
        refine ⟨S2, T1, M2, h1, h2, h3, h4, h5, ?_⟩
        rw [if_pos hu, List.length_append, List.map_append]
        exact h6
      | false =>
        rw [hz] at hu
        have hcell : (m.map Value.bool)[0 + (((i : Nat) : Int)).toNat * 1]? = some (.bool false) := by rw [Nat.zero_add, Nat.mul_one, Int.toNat_natCast, List.getElem?_map, hu]; rfl
        obtain ⟨T1, h1, h2⟩ := r16n b n c i S (trueTo m i) m false (M := M1) X1 g1 (decide_eq_true (by omega)) rfl hcell
        rw [wrap_succ (by omega)] at h2
        refine ⟨S, T1, M1, h1, h2, X1, hM1, g1, ?_⟩
        rw [if_neg (by rw [hu]; simp), List.append_nil]
        exact hA)
    (by
      rintro S M1 ⟨X1, hM1, g1, hA⟩
      exact r16x b n c n S (M := M1) (decide_eq_false (by omega)))
    n 0 (by omega) (s := sln) (M := M) ⟨X, hM, gb, .inl ⟨rfl, rfl, rfl⟩⟩
  have hl := trueTo_len m n
  exact ⟨S, M', h1, h2, h3, acc_newI h4 (by omega) (Nat.le_refl _)⟩
theorem rK16 : Try.f16.results = #[.tmp 6] := by kernel_rfl
theorem hS16_32 (B : Bd) : ∀ p ∈ ([(32, pick (TC Try.prog [] 32 (QSp 48)))] : List (FuncId × (List Value → Mem → Option (Value × Mem)))), SpecOk Try.prog [] B p.1 p.2 := (fun p hp => by simp only [List.mem_cons, List.not_mem_nil, or_false] at hp; rcases hp with rfl <;> first | exact Con.ok _ | exact TC.ok _)
theorem w16_raw (ab Eo co : Nat) (v ms : Int) (vi vt vs : Value) (ad : AdjM) (M : Mem) (b1 : Nat) (M2 : Mem) (t10 : Bool) (w11 : Value) (m12 : List Bool) (M13 : Mem) (S22 : Value) (M23 : Mem) : oT Try.prog [0] 60 Try.f16 q16 [(pt ab 0), (i64 v), (i64 ms)] M [ttL 9 (sli Eo 0 ad.out.length co), ttV 13 (sli b1 0 ad.out.length (ad.out.length + 1)) M2, .at 25 ((bif t10 then 1 else 2), .val w11, M13), .blk 34 [8, 22, 23, 24] .normal (fr [(8, S22)]) M23] 6 = some (.ret, some S22, M23, [qL 46 ab 0 M (sli Eo 0 ad.out.length co), .eq (amakeSlice Try.prog 55 (i64 (((ad.out.length : Nat) : Int))) (i64 (((ad.out.length : Nat) : Int))) M) (1, .val (sli b1 0 ad.out.length (ad.out.length + 1)), M2), .cl 32 [(pt ab 0), (i64 v), (i64 ms), (sli b1 0 ad.out.length (ad.out.length + 1))] M2 ((bif t10 then 1 else 2), .val w11, M13), .blk 0 (.loop (q16.loopAt 0)) Try.f16.ntmps [8, 22, 23, 24] [some sln, some (sli b1 0 ad.out.length (ad.out.length + 1)), some (i64 (((ad.out.length : Nat) : Int))), some (i64 0)] M13 .normal (fr [(8, S22)]) M23]) := by cases t10 <;> kernel_rfl
theorem w16 (ab Eo co : Nat) (v ms : Int) (vi vt vs : Value) (ad : AdjM) {M : Mem} (hM : MemOk M) (gab : M.get ab = some ⟨[sli Eo 0 ad.out.length co, vi, vt, vs], 48, 4, 0, true⟩) (hadj : pAdj 48 ad (pt ab 0) M) (hok : okR ad) (hn60 : ad.out.length ≤ 60) (hn0 : ad.out.length < 137438953472) : ∃ v_ M', Ev Try.prog [] 16 [(pt ab 0), (i64 v), (i64 ms)] M v_ M' ∧ Ext M M' ∧ MemOk M' ∧ newR pInts (reachL ad ms v) M.next v_ M' := by
  obtain ⟨b1, M2, eb3, em4, g5, E6, hM7⟩ := mks_t (P := Try.prog) (t := 55) (elem := 4) (z := (.bool false)) (n := ad.out.length) hM (by kernel_rfl) (by kernel_rfl) hn0
  have nb1 : M.next ≤ b1 := by rw [← eb3]; exact (Ext.refl M).next
  have dabb1 : ab ≠ b1 := by have := Mem.lt_of_get gab; omega
  have g8 := E6.old gab
  have X9 := (Ext.refl M).trans E6
  have gRb1 : M2.get b1 = some ⟨(List.replicate ad.out.length false).map Value.bool, 4, 1, 0, true⟩ := by rw [List.map_replicate]; exact g5
  obtain ⟨t10, w11, m12, M13, hc14, X15, hM16, nx17, g18, kp19, sp20⟩ := call_sp (P := Try.prog) (f := 32) (x := (ad, v, ms, b1, List.replicate ad.out.length false)) (l := [(pt ab 0), (i64 v), (i64 ms), (sli b1 0 ad.out.length (ad.out.length + 1))]) hM7 X9 nb1 (⟨pt ab 0, ad.out.length + 1, by rw [List.length_replicate], AP.ext (R := pAdj 48) (Ext.below X9 nb1 (Nat.le_of_lt (Mem.lt_of_get g5))) hadj, gRb1, hok, List.length_replicate⟩) (con32 (lv := [(pt ab 0), (i64 v), (i64 ms), (sli b1 0 ad.out.length (ad.out.length + 1))]) (MemOk.log hM7) (asSp.log (x := (ad, v, ms, b1, List.replicate ad.out.length false)) (⟨pt ab 0, ad.out.length + 1, by rw [List.length_replicate], AP.ext (R := pAdj 48) (Ext.below X9 nb1 (Nat.le_of_lt (Mem.lt_of_get g5))) hadj, gRb1, hok, List.length_replicate⟩)))
  have g21 := kp19 _ _ g8 dabb1
  obtain ⟨S22, M23, hL24, X25, hM26, nw27⟩ := loop16 hM16 X15 g18 (c := ad.out.length + 1) ((sp20).len.trans List.length_replicate) hn60
  have hraw := w16_raw ab Eo co v ms vi vt vs ad M  b1 M2 t10 w11 m12 M13 S22 M23
  exact ⟨S22, M23, Ev.told_tmp noNumP mixedP Try.func16 q16_ok (by kernel_rfl) rK16 (fun B => specsB_ok (hS16_32 B) (k := [(0, bone (.loop (q16.loopAt 0)) Try.f16.ntmps [8, 22, 23, 24] [some sln, some (sli b1 0 ad.out.length (ad.out.length + 1)), some (i64 (((ad.out.length : Nat) : Int))), some (i64 0)] M13 .normal (fr [(8, S22)]) M23)]) (fun p hp => by simp only [List.mem_cons, List.not_mem_nil, or_false] at hp; rcases hp with rfl <;> first | exact BlkOk.loop noNumP mixedP hL24)) (fun _ h => blksF_one h) hraw (hk (lC dC46 gab rfl) (hk (q_eq em4 Nat.one_ne_zero) (hk (hc14 _ rfl) (hk (q_blk rfl) hn)))), X25, hM26, (by rw [← reach_marks sp20]; exact nw27)⟩
abbrev Q16 := FC (asP (as3 (pAdj 48) pI pI) fun x => okR x.1 ∧ x.1.out.length ≤ 60) (newR pInts) (fun x => reachL x.1 x.2.2 x.2.1)
theorem con16 {x : AdjM × Int × Int} {lv : List Value} {M : Mem} (hM : MemOk M) (h : (asP (as3 (pAdj 48) pI pI) fun x : AdjM × Int × Int => okR x.1 ∧ x.1.out.length ≤ 60) x lv M) : ∃ v M', Con Try.prog [] 16 Q16 lv M v M' := by
  refine FC.con h ?_
  obtain ⟨⟨g0, g1, g2, rfl, k0, k1, k2⟩, hok, h60⟩ := h
  obtain ⟨ad, v, ms⟩ := x
  obtain rfl := k1
  obtain rfl := k2
  obtain ⟨ab, vo, vi, vt, vs, rfl, gab, hout, _⟩ := id k0
  obtain ⟨Eo, co, rfl⟩ := rowss_form hout
  obtain ⟨v', M', h1, h2, _, h3⟩ := w16 ab Eo co v ms vi vt vs ad hM gab k0 hok h60 (by simp only at h60; omega)
  exact ⟨v', M', h1, h2, h3⟩
end Go.Proofs.Ytipnhelkganmdaa
