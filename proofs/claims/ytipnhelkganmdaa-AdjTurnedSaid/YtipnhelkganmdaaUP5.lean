/-
  Package adj: each of its laws for every argument; no conditions. The last text states which.
-/
import Derived.Test.YtipnhelkganmdaaUP4
open Go Go.Am Go.Proofs
namespace Go.Proofs.Ytipnhelkganmdaa
set_option maxRecDepth 100000
set_option linter.unusedVariables false
set_option linter.unusedSimpArgs false
theorem r36_raw (D E n bb o m c i p q w : Nat) (x : Int) (cd ce : List Value) (M : Mem) (b1 : Nat) (M2 : Mem) (M12 : Mem) (M21 : Mem) : oR Try.prog [] 51 Try.f28 (q28.loopAt 0) [(5, (sli E 0 n (n + 1))), (11, (sli bb o m c)), (12, (i64 (((m : Nat) : Int)))), (13, (i64 (((i : Nat) : Int))))] M [ttT 2, ttT 6, ttL 8 (i64 x), ttT 22, ttL 24 (sli D p q w), ttV 28 (sli b1 0 1 2) M2, .at 30 (2, .val (sli D p (q + 1) w), M12), ttT 32, ttS 34 M21] [5, 11, 12, 13] = some (.normal, [some (sli E 0 n (n + 1)), some (sli bb o m c), some (i64 (((m : Nat) : Int))), some (i64 (IntKind.wrap .i64 ((((i : Nat) : Int)) + (1 : Int))))], M21, [qT (decide ((((i : Nat) : Int)) < (((m : Nat) : Int)))), .q (.inb (((i : Nat) : Int)) m) (ansB true), qL 3 bb (o + (((i : Nat) : Int) : Int).toNat * 1) M (i64 x), .q (.inb x n) (ansB true), qL 22 E (0 + (x : Int).toNat * 1) M (sli D p q w), .eq (abuildSlice Try.prog 22 1 [(0, (i64 (((i : Nat) : Int))))] M) (1, .val (sli b1 0 1 2), M2), .q (.append [22, 22] (sli D p q w) (sli b1 0 1 2) M2) (2, .val (sli D p (q + 1) w), M12), .q (.inb x n) (ansB true), qS 22 E (0 + (x : Int).toNat * 1) (sli D p (q + 1) w) M12 M21]) := by kernel_rfl
theorem r36 (D E n bb o m c i p q w : Nat) (x : Int) (cd ce : List Value) {M M0 : Mem} (hM : MemOk M) (X0 : Ext M0 M) (hD : M0.next ≤ D) (hE : M0.next ≤ E) (gD : M.get D = some ⟨cd, 3, 1, 0, true⟩) (gE : M.get E = some ⟨ce, 22, 1, 0, true⟩) (dDE : D ≠ E) (cc0 : (decide ((((i : Nat) : Int)) < (((m : Nat) : Int)))) = true) (hld0 : aload Try.prog 3 ⟨bb, o + (((i : Nat) : Int) : Int).toNat * 1, none⟩ M0 = some (i64 x)) (hi1 : 0 ≤ (x : Int) ∧ (x : Int) < n) (hc2 : (ce)[0 + (x : Int).toNat * 1]? = some (sli D p q w)) (hr3 : q + 1 < w ∧ p + (q + 1) * 1 ≤ (cd).length ∧ q < 1073741824) (hof4 : 0 + (x : Int).toNat * 1 + 1 ≤ (ce).length) : ∃ T1 M', Rd Try.prog [] (q28.loopAt 0) Try.f28.ntmps (fr [(5, (sli E 0 n (n + 1))), (11, (sli bb o m c)), (12, (i64 (((m : Nat) : Int)))), (13, (i64 (((i : Nat) : Int))))]) M .normal T1 M' ∧ [5, 11, 12, 13].map T1.get = [some (sli E 0 n (n + 1)), some (sli bb o m c), some (i64 (((m : Nat) : Int))), some (i64 (IntKind.wrap .i64 ((((i : Nat) : Int)) + (1 : Int))))] ∧ Ext M0 M' ∧ MemOk M' ∧ M'.get D = some ⟨(splice cd (p + q * 1) [(i64 (((i : Nat) : Int)))]), 3, 1, 0, true⟩ ∧ M'.get E = some ⟨(splice ce (0 + (x : Int).toNat * 1) [(sli D p (q + 1) w)]), 22, 1, 0, true⟩ ∧ ∀ id k, M.get id = some k → id ≠ D → id ≠ E → M'.get id = some k := by
  obtain ⟨b1, M2, eb3, em4, g5, E6, hM7⟩ := new_t hM ⟨[(i64 (((i : Nat) : Int)))], 3, 1, 0, true⟩
  have nb1 : M0.next ≤ b1 := by rw [← eb3]; exact X0.next
  have dDb1 : D ≠ b1 := by have := Mem.lt_of_get gD; omega
  have dEb1 : E ≠ b1 := by have := Mem.lt_of_get gE; omega
  have g8 := E6.old gD
  have g9 := E6.old gE
  have nx10 := E6.next
  have X11 := X0.trans E6
  obtain ⟨M12, q13, g14, kp15, X16, hM17, nx18⟩ := append_in_t (P := Try.prog) (sT := 22) (xT := 22) (elem := 3) (w := 1) (y := 8) (cx := 2) X11 hD hM7 (by kernel_rfl) (by kernel_rfl) (by kernel_rfl) (by decide) (by decide) hr3.2.2 g5 (ox := 0) (new := [(i64 (((i : Nat) : Int)))]) rfl rfl rfl g8 (takeN_some (n := q * 1) (k := p) (l := cd) (by have := hr3.2.1; omega)) rfl rfl (Nat.zero_le _) hr3.1 hr3.2.1
  replace g14 : M12.get D = some ⟨splice cd (p + q * 1) [(i64 (((i : Nat) : Int)))], 3, 1, 0, true⟩ := g14
  have g19 := (kp15 _ (Ne.symm dDE)).trans g9
  have g20 := (kp15 _ (Ne.symm dDb1)).trans g5
  obtain ⟨M21, q22, g23, kp24, X25, hM26, nx27⟩ := store_t (o := 0 + (x : Int).toNat * 1) (v := (sli D p (q + 1) w)) (new := splice ce (0 + (x : Int).toNat * 1) [(sli D p (q + 1) w)]) X16 hE hM17 dS22 g19 rfl rfl (Nat.zero_le _) hof4 rfl
  replace g23 : M21.get E = some ⟨splice ce (0 + (x : Int).toNat * 1) [(sli D p (q + 1) w)], 22, 1, 0, true⟩ := g23
  have g28 := (kp24 _ dDE).trans g14
  have g29 := (kp24 _ (Ne.symm dEb1)).trans g20
  have hraw := r36_raw D E n bb o m c i p q w x cd ce M  b1 M2 M12 M21
  have hkp : ∀ id k, M.get id = some k → id ≠ D → id ≠ E → M21.get id = some k := fun id k g h_D h_E => by
    have g0 := Mem.lt_of_get g
    have g := E6.old g
    have g := ((fun id h _ => kp15 id h) id h_D (Mem.lt_of_get g)).trans g
    have g := ((fun id h _ => kp24 id h) id h_E (Mem.lt_of_get g)).trans g
    exact g
  obtain ⟨T1, h1, h2⟩ := Rd.told noNumP mixedP (specs_none Try.prog) (fun _ _ => rfl) hraw (hk (bT cc0) (hk (q_inb (by omega) (by simp at cc0; omega)) (hk (q_ld (aload_ext X0 hld0)) (hk (q_inb hi1.1 hi1.2) (hk (q_ld (aload_cell (a := ⟨E, 0 + (x : Int).toNat * 1, none⟩) dC22 gE hc2)) (hk (q_eq (by rw [← eb3, ← em4]; kernel_rfl) Nat.one_ne_zero) (hk (q_app q13 (Nat.succ_ne_zero _)) (hk (q_inb hi1.1 hi1.2) (hk (q_st q22) hn)))))))))
  exact ⟨T1, M21, h1, h2, X25, hM26, g28, g23, hkp⟩
theorem r36x_raw (E n : Nat) (a : Option Addr) (m c i : Nat) (M : Mem)  : oR Try.prog [] 51 Try.f28 (q28.loopAt 0) [(5, (sli E 0 n (n + 1))), (11, (.slice a m c)), (12, (i64 (((m : Nat) : Int)))), (13, (i64 (((i : Nat) : Int))))] M [ttF 2] [5] = some ((.exit 0), [some (sli E 0 n (n + 1))], M, [qF (decide ((((i : Nat) : Int)) < (((m : Nat) : Int))))]) := by kernel_rfl
theorem r36x (E n : Nat) (a : Option Addr) (m c i : Nat) {M : Mem} (cc0 : (decide ((((i : Nat) : Int)) < (((m : Nat) : Int)))) = false) : ∃ T1, Rd Try.prog [] (q28.loopAt 0) Try.f28.ntmps (fr [(5, (sli E 0 n (n + 1))), (11, (.slice a m c)), (12, (i64 (((m : Nat) : Int)))), (13, (i64 (((i : Nat) : Int))))]) M (.exit 0) T1 M ∧ [5].map T1.get = [some (sli E 0 n (n + 1))] := by
  have hraw := r36x_raw E n a m c i M  
  obtain ⟨T1, h1, h2⟩ := Rd.told noNumP mixedP (specs_none Try.prog) (fun _ _ => rfl) hraw (hk (bF cc0) hn)
  exact ⟨T1, h1, h2⟩
theorem loop36 {a : Option Addr} {c D E n : Nat} {ends : List Int} {M0 M : Mem} (hM : MemOk M) (X : Ext M0 M) (hs : pInts ends (.slice a ends.length c) M0) (hb : ∀ x ∈ ends, 0 ≤ x ∧ x < (n : Int)) (hl : ends.length ≤ 400) (hD : M0.next ≤ D) (hE : M0.next ≤ E) (dDE : D ≠ E) (gE : M.get E = some ⟨rowCells D (cnt (keyE ends) ends.length) (fun _ => 0) n, 22, 1, 0, true⟩) (gD : M.get D = some ⟨List.replicate ends.length (i64 0), 3, 1, 0, true⟩) :
    ∃ M', LoopR Try.prog [] (q28.loopAt 0) Try.f28.ntmps (fr [(5, sli E 0 n (n + 1)), (11, .slice a ends.length c), (12, i64 ((ends.length : Nat) : Int)), (13, i64 ((0 : Nat) : Int))]) M (.exit 0) (fr [(5, sli E 0 n (n + 1))]) M' ∧ Ext M0 M' ∧ MemOk M' ∧ M'.get E = some ⟨rowCells D (cnt (keyE ends) ends.length) (cnt (keyE ends) ends.length) n, 22, 1, 0, true⟩ ∧ ∃ mem, M'.get D = some ⟨mem, 3, 1, 0, true⟩ ∧ Bk (cnt (keyE ends) ends.length) n (keyE ends) (fun j => i64 ((j : Nat) : Int)) ends.length mem := by
  have hall := offS_cnt (keyE ends) n ends.length fun j hj => keyE_lt hb hj
  obtain ⟨_, M', h1, h2, h3, h4, h5⟩ := LoopR.for (P := Try.prog) (GL := []) (b := q28.loopAt 0) (nt := Try.f28.ntmps) (id := 0) (σ := Unit) (n := ends.length) (Inv := fun i _ M1 => Ext M0 M1 ∧ MemOk M1 ∧ M1.get E = some ⟨rowCells D (cnt (keyE ends) ends.length) (cnt (keyE ends) i) n, 22, 1, 0, true⟩ ∧ ∃ mem, M1.get D = some ⟨mem, 3, 1, 0, true⟩ ∧ Bk (cnt (keyE ends) ends.length) n (keyE ends) (fun j => i64 ((j : Nat) : Int)) i mem)
    (F := fun i _ => [(5, sli E 0 n (n + 1)), (11, .slice a ends.length c), (12, i64 ((ends.length : Nat) : Int)), (13, i64 ((i : Nat) : Int))])
    (O := fun _ => [(5, sli E 0 n (n + 1))])
    (by
      rintro i _ M1 hi ⟨X1, hM1, hg1, mem, hg2, hB⟩
      obtain ⟨bb, o, rfl, _⟩ := form_pos hs (by omega)
      have ht : ends[i]? = some ends[i] := List.getElem?_eq_getElem hi
      have hk := keyE_lt hb hi
      have hbi := hb _ (List.getElem_mem hi)
      have hlt := cnt_lt (keyE ends) hi
      have hroom := hB.room hk hlt
      have hc := cnt_le (keyE ends) i (keyE ends i)
      have e0 : 0 + (ends[i] : Int).toNat * 1 = keyE ends i := by rw [keyE_at hi]; omega
      obtain ⟨T1, M2, h1, h2, h3, h4, h5, h6, _⟩ := r36 D E n bb o ends.length c i (offS (cnt (keyE ends) ends.length) (keyE ends i)) (cnt (keyE ends) i (keyE ends i)) (cnt (keyE ends) ends.length (keyE ends i) + 1) ends[i] _ _ hM1 X1 hD hE hg2 hg1 dDE (decide_eq_true (by omega)) (ld_one (P := Try.prog) (ty := 3) hs ht rfl dC3) hbi (by rw [e0]; exact rowCells_get _ _ _ hk) ⟨by omega, by omega, by omega⟩ (by rw [e0, rowCells_len]; omega)
      rw [wrap_succ (by omega)] at h2
      rw [e0, rowCells_step D _ (keyE ends) i n hk] at h6
      have hst := hB.step hk hlt
      rw [show offS (cnt (keyE ends) ends.length) (keyE ends i) + cnt (keyE ends) i (keyE ends i) = offS (cnt (keyE ends) ends.length) (keyE ends i) + cnt (keyE ends) i (keyE ends i) * 1 by omega] at hst
      exact ⟨(), T1, M2, h1, h2, h3, h4, h6, _, h5, hst⟩)
    (by
      rintro _ M1 ⟨X1, hM1, _⟩
      exact r36x E n a ends.length c ends.length (M := M1) (decide_eq_false (by omega)))
    ends.length 0 (by omega) (s := ()) (M := M) ⟨X, hM, gE, _, gD, Bk.zero (by rw [hall]; simp)⟩
  exact ⟨M', h1, h2, h3, h4, h5⟩
theorem rK28 : Try.f28.results = #[.tmp 4] := by kernel_rfl
theorem hS36_45 (B : Bd) : ∀ p ∈ ([(36, pick (Con Try.prog [] 36 Q36))] : List (FuncId × (List Value → Mem → Option (Value × Mem)))), SpecOk Try.prog [] B p.1 p.2 := (fun p hp => by simp only [List.mem_cons, List.not_mem_nil, or_false] at hp; rcases hp with rfl <;> first | exact Con.ok _)
theorem w36_raw (n : Nat) (aends : Option Addr) (cends : Nat) (ends : List Int) (M : Mem) (b1 : Nat) (M5 : Mem) (M17 : Mem) : oT Try.prog [0] 60 Try.f28 q28 [(i64 ((n : Nat) : Int)), (.slice aends ends.length cends)] M [ttV 7 (sli b1 0 n (n + 1)) M5, ttT 13, .blk 16 [5, 11, 12, 13] .normal (fr [(5, (sli b1 0 n (n + 1)))]) M17] 4 = some (.ret, some (sli b1 0 n (n + 1)), M17, [qC 36 [(i64 (((n : Nat) : Int))), (.slice aends ends.length cends)] M (sli b1 0 n (n + 1)) M5, .ln aends ends.length cends, .blk 0 (.loop (q28.loopAt 0)) Try.f28.ntmps [5, 11, 12, 13] [some (sli b1 0 n (n + 1)), some (.slice aends ends.length cends), some (i64 (((ends.length : Nat) : Int))), some (i64 0)] M5 .normal (fr [(5, (sli b1 0 n (n + 1)))]) M17]) := by kernel_rfl
theorem w36 (n : Nat) (aends : Option Addr) (cends : Nat) (ends : List Int) {M : Mem} (hM : MemOk M) (hends : pInts ends (.slice aends ends.length cends) M) (hcond : ends.length ≤ 400 ∧ n ≤ 60 ∧ ∀ x ∈ ends, 0 ≤ x ∧ x < (n : Int)) : ∃ v M', Ev Try.prog [] 28 [(i64 ((n : Nat) : Int)), (.slice aends ends.length cends)] M v M' ∧ Ext M M' ∧ MemOk M' ∧ newR pRowss (rowsOf n ends) M.next v M' := by
  obtain ⟨w3, N4, M5, p6, l7, e8, E9, hM10, F11⟩ := call_fc (x := (n, ends)) hM con36 (⟨⟨_, _, rfl, rfl, AP.Ext (R := pInts) hends (Ext.refl M)⟩, hcond⟩)
  have nx12 := E9.next
  obtain ⟨b1, b2, ew3, nb1, nb2, db2b1, gb1, gb2⟩ := F11
  subst ew3
  have nb1 := Nat.le_trans ((Ext.refl M)).next nb1
  have nb2 := Nat.le_trans ((Ext.refl M)).next nb2
  have X13 := (Ext.refl M).trans E9
  obtain ⟨M17, hL18, X19, hM20, g21, me14, gD15, hB16⟩ := loop36 hM10 X13 hends hcond.2.2 hcond.1 nb2 nb1 db2b1 gb1 gb2
  have hraw := w36_raw n aends cends ends M  b1 M5 M17
  exact ⟨(sli b1 0 n (n + 1)), M17, Ev.told_tmp noNumP mixedP Try.func28 q28_ok (by kernel_rfl) rK28 (fun B => specsB_ok (hS36_45 B) (k := [(0, bone (.loop (q28.loopAt 0)) Try.f28.ntmps [5, 11, 12, 13] [some (sli b1 0 n (n + 1)), some (.slice aends ends.length cends), some (i64 (((ends.length : Nat) : Int))), some (i64 0)] M5 .normal (fr [(5, (sli b1 0 n (n + 1)))]) M17)]) (fun p hp => by simp only [List.mem_cons, List.not_mem_nil, or_false] at hp; rcases hp with rfl <;> first | exact BlkOk.loop noNumP mixedP hL18)) (fun _ h => blksF_one h) hraw (hk (q_call rfl p6 l7 e8) (hk (lN hends.ln) (hk (q_blk rfl) hn))), X19, hM20, rowss_of (hid_of nb1 g21) (hid_of nb2 gD15) hB16 (by have := hcond.1; omega) _⟩
abbrev Q28 := FC (asP (as2 pN pInts) fun x : Nat × List Int => x.2.length ≤ 400 ∧ x.1 ≤ 60 ∧ ∀ z ∈ x.2, 0 ≤ z ∧ z < (x.1 : Int)) (newR pRowss) (fun x => rowsOf x.1 x.2)
theorem con28 {x : Nat × List Int} {lv : List Value} {M : Mem} (hM : MemOk M) (h : (asP (as2 pN pInts) fun x : Nat × List Int => x.2.length ≤ 400 ∧ x.1 ≤ 60 ∧ ∀ z ∈ x.2, 0 ≤ z ∧ z < (x.1 : Int)) x lv M) : ∃ v M', Con Try.prog [] 28 Q28 lv M v M' := by
  refine FC.con h ?_
  obtain ⟨⟨g0, g1, rfl, rfl, k1⟩, hcond⟩ := h
  obtain ⟨n, ends⟩ := x
  obtain ⟨a, c, rfl⟩ := GRowsAt.form k1
  obtain ⟨v, M', h1, h2, _, h3⟩ := w36 n a c ends hM k1 hcond
  exact ⟨v, M', h1, h2, h3⟩
end Go.Proofs.Ytipnhelkganmdaa
