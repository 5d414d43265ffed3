/-
  Package adj: each of its laws for every argument; no conditions. The last text states which.
-/
import Derived.Test.YtipnhelkganmdaaGUK
import Derived.Test.YtipnhelkganmdaaGUPE
import Derived.Test.YtipnhelkganmdaaGAmBk
import Derived.Test.YtipnhelkganmdaaGU1
open Go Go.Am Go.Proofs
namespace Go.Proofs.Ytipnhelkganmdaa
set_option maxRecDepth 100000
set_option linter.unusedVariables false
set_option linter.unusedSimpArgs false
theorem erowL (l : List E4) : ((l.map eRow).flatten).length = l.length * 4 := by
  induction l with
  | nil => rfl
  | cons e l ih => simp only [List.map_cons, List.flatten_cons, List.length_append, ih, List.length_cons]; simp [eRow]; omega
def OwnE (nx : Nat) (l : List E4) (S : Value) (M : Mem) : Prop := (S = sln ∧ l = []) ∨ ∃ b, S = sli b 0 l.length l.length ∧ 0 < l.length ∧ nx ≤ b ∧ M.get b = some ⟨(l.map eRow).flatten, 32, 4, 0, true⟩
def pMkO (x : Nat × List E4) (nx : Nat) (v : Value) (M : Mem) : Prop := ∃ S, v = .agg ⟨[i64 ((x.1 : Nat) : Int), S]⟩ ∧ OwnE nx x.2 S M
instance : AQ pMkO := ⟨fun hE ⟨S, h1, h2⟩ => ⟨S, h1, h2.imp id fun ⟨b, q1, q2, q3, q4⟩ => ⟨b, q1, q2, q3, hE _ _ q4⟩⟩⟩
theorem ownE_of {M0 M M' : Mem} {S : Value} {l : List E4} {p r6 : Nat} (h : AccC 32 4 M0 [p, r6] l.length ((l.map eRow).flatten) S M) (hk : ∀ id, id ≠ r6 → M'.get id = M.get id) : OwnE M0.next l S M' := by
  rcases h with ⟨rfl, h0, _⟩ | ⟨b, rfl, h2, _, h3, h5, h6⟩
  · exact .inl ⟨rfl, List.eq_nil_of_length_eq_zero h0⟩
  · exact .inr ⟨b, rfl, h2, h3, (hk b (fun e => h5 (by simp [e]))).trans h6⟩
theorem w11b (size : Int) (ans : Option Addr) (cns : Nat) (ns : List Int) (md : Int) {M : Mem} (hM : MemOk M) (hns : pInts ns (.slice ans ns.length cns) M) : ∃ v_ M', Ev Try.prog [] 11 [(i64 size), (.slice ans ns.length cns), (i64 md)] M v_ M' ∧ Ext M M' ∧ MemOk M' ∧ pMkO (nMk size, mkL size ns md) M.next v_ M' := by
  obtain ⟨b1, M2, eb3, em4, g5, E6, hM7⟩ := new_t hM ⟨[(i64 0), sln], 26, 2, 0, true⟩
  have nb1 : M.next ≤ b1 := by rw [← eb3]; exact (Ext.refl M).next
  have nx8 := E6.next
  have X9 := (Ext.refl M).trans E6
  have ltb1M12 := Mem.lt_of_get g5
  obtain ⟨w10, N11, M12, p13, l14, e15, E16, hM17, F18⟩ := call_fc (x := (size, 12)) hM7 con24 (⟨⟨_, _, rfl, rfl, rfl⟩, rfl⟩)
  have nx19 := E16.next
  have g20 := E16.old g5
  have ew10 : w10 = (i64 (modI size 12)) := F18
  subst ew10
  have X21 := X9.trans E16
  obtain ⟨b22, M23, eb24, em25, g26, E27, hM28⟩ := new_t hM17 ⟨[(i64 0), sln], 26, 2, 0, true⟩
  have nb22 : M.next ≤ b22 := by rw [← eb24]; exact X21.next
  have db1b22 : b1 ≠ b22 := by have := Mem.lt_of_get g20; omega
  have g29 := E27.old g20
  have nx30 := E27.next
  have X31 := X21.trans E27
  obtain ⟨M32, q33, g34, kp35, X36, hM37, nx38⟩ := store_t (o := 0) (v := (.agg ⟨[(i64 (IntKind.wrap .i64 ((1 : Int) + (modI size 12)))), sln]⟩)) (new := [(i64 (IntKind.wrap .i64 ((1 : Int) + (modI size 12)))), sln]) X31 nb22 hM28 dS26 g26 rfl rfl (Nat.zero_le _) (Nat.le_of_ble_eq_true rfl) rfl
  replace g34 : M32.get b22 = some ⟨[(i64 (IntKind.wrap .i64 ((1 : Int) + (modI size 12)))), sln], 26, 2, 0, true⟩ := g34
  have g39 := (kp35 _ db1b22).trans g29
  obtain ⟨M43, hL44, X45, hM46, gq47, S40, gs42, A41⟩ := loop9 (md := md) hM37 X36 hns nb22 (N := ((nMk size : Nat) : Int)) (by rw [← nMk_eq]; exact g34) g39 (Ne.symm db1b22) (by have := nMk_range size; simp only [Bool.and_eq_true, decide_eq_true_eq]; omega)
  have hcS : isCell S40 = true := AccC.isCell A41
  have db22b1 := (Ne.symm db1b22)
  obtain ⟨M48, q49, g50, kp51, X52, hM53, nx54⟩ := store_t (o := 0) (v := (.agg ⟨[(i64 (((nMk size : Nat) : Int))), S40]⟩)) (new := [(i64 (((nMk size : Nat) : Int))), S40]) X45 nb1 hM46 dS26 gq47 rfl (by show (isCell (i64 _) && (isCell S40 && true)) = true; rw [hcS]; rfl) (Nat.zero_le _) (Nat.le_of_ble_eq_true rfl) rfl
  replace g50 : M48.get b1 = some ⟨[(i64 (((nMk size : Nat) : Int))), S40], 26, 2, 0, true⟩ := g50
  have g55 := (kp51 _ db22b1).trans gs42
  have hlen := hns.len
  have hraw := w9_raw size ans cns ns md M  b1 M2 M12 b22 M23 M32 S40 M43 M48
  exact ⟨(.agg ⟨[(i64 (((nMk size : Nat) : Int))), S40]⟩), M48, Ev.told_cell noNumP mixedP Try.func11 q11_ok (by kernel_rfl) rK11 (fun B => specsB_ok (hS9_19 B) (k := [(0, bone (.loop (q11.loopAt 0)) Try.f11.ntmps [1, 2, 6, 7, 8] [some (.slice ans ns.length cns), some (i64 md), some (pt b1 0), some (pt b22 0), some (i64 0)] M32 .normal (fr [(6, (pt b1 0)), (7, (pt b22 0))]) M43)]) (fun p hp => by simp only [List.mem_cons, List.not_mem_nil, or_false] at hp; rcases hp with rfl <;> first | exact BlkOk.loop noNumP mixedP hL44)) (fun _ h => blksF_one h) hraw (aload_agg (a := ⟨b1, 0, none⟩) dA26 dS26 g50 rfl) (hk (q_eq (by rw [← eb3, ← em4]; kernel_rfl) Nat.one_ne_zero) (hk (q_call rfl p13 l14 e15) (hk (q_eq (by rw [← eb24, ← em25]; kernel_rfl) Nat.one_ne_zero) (hk (q_st q33) (hk (q_blk rfl) (hk (lA ⟨dA26, dS26⟩ gs42 rfl) (hk (q_st q49) hn))))))), X52, hM53, ⟨_, rfl, ownE_of A41 kp51⟩⟩
abbrev Q11b := FC (as3 pI pInts pI) pMkO (fun x : Int × List Int × Int => (nMk x.1, mkL x.1 x.2.1 x.2.2))
theorem con11b {x : Int × List Int × Int} {lv : List Value} {M : Mem} (hM : MemOk M) (h : (as3 pI pInts pI) x lv M) : ∃ v M', Con Try.prog [] 11 Q11b lv M v M' := by
  refine FC.con h ?_
  obtain ⟨g0, g1, g2, rfl, k0, k1, k2⟩ := h
  obtain ⟨size, ns, md⟩ := x
  obtain rfl := k0
  obtain rfl := k2
  obtain ⟨a, c, rfl⟩ := GRowsAt.form k1
  obtain ⟨v, M', h1, h2, _, h3⟩ := w11b size a c ns md hM k1
  exact ⟨v, M', h1, h2, h3⟩
end Go.Proofs.Ytipnhelkganmdaa

open Go Go.Am Go.Proofs
namespace Go.Proofs.Ytipnhelkganmdaa
set_option maxRecDepth 100000
set_option linter.unusedVariables false
set_option linter.unusedSimpArgs false
def pOwnI (l : List Int) (nx : Nat) (S : Value) (M : Mem) : Prop := (S = sln ∧ l = []) ∨ ∃ b, S = sli b 0 l.length l.length ∧ nx ≤ b ∧ M.get b = some ⟨(l.map iRow).flatten, 3, 1, 0, true⟩
instance : AQ pOwnI := ⟨fun hE h => h.imp id fun ⟨b, q1, q2, q3⟩ => ⟨b, q1, q2, hE _ _ q3⟩⟩
theorem w32o (ab Eo Ei : Nat) (co ci : Nat) (at_ : Option Addr) (ct : Nat) (as_ : Option Addr) (cs_ : Nat) (ad : AdjM) (v : Int) {M : Mem} (hM : MemOk M) (gab : M.get ab = some ⟨[sli Eo 0 ad.out.length co, sli Ei 0 ad.inn.length ci, .slice at_ ad.to.length ct, .slice as_ ad.set.length cs_], 48, 4, 0, true⟩) (hout : pRowss ad.out (sli Eo 0 ad.out.length co) M) (hinn : pRowss ad.inn (sli Ei 0 ad.inn.length ci) M) (hto : pInts ad.to (.slice at_ ad.to.length ct) M) (hset : pInts ad.set (.slice as_ ad.set.length cs_) M) (hok : okA ad) : ∃ v_ M', Ev Try.prog [] 13 [(pt ab 0), (i64 v)] M v_ M' ∧ Ext M M' ∧ MemOk M' ∧ pOwnI (rowV ad.out v) M.next v_ M' := by
  have ltabM6 := Mem.lt_of_get gab
  obtain ⟨w4, N5, M6, p7, l8, e9, E10, hM11, F12⟩ := call_fc (x := (ad.out, v)) hM con31 (⟨_, _, rfl, AP.Ext (R := pRowss) hout (Ext.refl M), rfl⟩)
  have nx13 := E10.next
  have g14 := E10.old gab
  have G3 : pInts (rowV ad.out v) w4 M6 := F12
  obtain ⟨a1, c2, ew4⟩ := GRowsAt.form G3
  subst ew4
  have X15 := (Ext.refl M).trans E10
  obtain ⟨v16, M17, q18, F21, E19, hM20, nw22⟩ := append_rowN (P := Try.prog) (sT := 22) (xT := 22) (elem := 3) (w := 1) (y := 8) hM11 (by kernel_rfl) (by kernel_rfl) (by kernel_rfl) (by decide) (by decide) rfl G3 (rowV_ok (p := fun r => r.length ≤ 1073741824) (fun r hr => Nat.le_trans (hok.1 r hr).1 (by decide)) (by decide) v) (fun _ _ => rfl)
  have F23 := AP.Ext (R := pInts) G3 E19
  have g24 := E19.old g14
  have X25 := X15.trans E19
  have hraw := w32_raw ab Eo Ei co ci at_ ct as_ cs_ ad v M  a1 c2 M6 v16 M17
  exact ⟨v16, M17, Ev.told_tmp noNumP mixedP Try.func13 q13_ok (by kernel_rfl) rK13 (fun B => specsB_ok (k := []) (hS32_44 B) (fun p hp => by cases hp)) (fun _ _ => rfl) hraw (hk (lC dC46 gab rfl) (hk (q_call rfl p7 l8 e9) (hk (q_app q18 Nat.one_ne_zero) hn))), X25, hM20, (nw22.imp id fun ⟨b, q1, q2, q3⟩ => ⟨b, q1, Nat.le_trans (X15).next q2, q3⟩)⟩
abbrev Q13o := FC (asP (as2 (pAdj 48) pI) fun x => okA x.1) pOwnI (fun x => rowV x.1.out x.2)
theorem con13o {x : AdjM × Int} {lv : List Value} {M : Mem} (hM : MemOk M) (h : (asP (as2 (pAdj 48) pI) fun x : AdjM × Int => okA x.1) x lv M) : ∃ v M', Con Try.prog [] 13 Q13o lv M v M' := by
  refine FC.con h ?_
  obtain ⟨⟨g0, g1, rfl, k0, k1⟩, hok⟩ := h
  obtain ⟨ad, v⟩ := x
  obtain rfl := k1
  obtain ⟨ab, o, i_, t, s, rfl, gab, hout, hinn, hto, hset⟩ := k0
  obtain ⟨Eo, co, rfl⟩ := rowss_form hout
  obtain ⟨Ei, ci, rfl⟩ := rowss_form hinn
  obtain ⟨at_, ct, rfl⟩ := GRowsAt.form hto
  obtain ⟨as_, cs_, rfl⟩ := GRowsAt.form hset
  obtain ⟨v', M', h1, h2, _, h3⟩ := w32o ab Eo Ei co ci at_ ct as_ cs_ ad v hM gab hout hinn hto hset hok
  exact ⟨v', M', h1, h2, h3⟩
end Go.Proofs.Ytipnhelkganmdaa

open Go Go.Am Go.Proofs
namespace Go.Proofs.Ytipnhelkganmdaa
set_option maxRecDepth 100000
set_option linter.unusedVariables false
set_option linter.unusedSimpArgs false
theorem r4n_raw (mp ab ob xb b n i : Nat) (by_ v : Int) (cr : List Value) (M : Mem) (M1 : Mem) : oR Try.prog [] 60 Try.f6 (q6.loopAt 4) [(2, (i64 by_)), (8, (pt mp 0)), (9, (pt ab 0)), (10, (pt ob 0)), (12, (pt xb 0)), (13, (i64 v)), (14, (sli b 0 n n)), (15, (i64 (((i : Nat) : Int))))] M [ttT 8, ttT 16, ttS 18 M1] [2, 8, 9, 10, 12, 13, 14, 15] = some (.normal, [some (i64 by_), some (pt mp 0), some (pt ab 0), some (pt ob 0), some (pt xb 0), some (i64 v), some (sli b 0 n n), some (i64 (IntKind.wrap .i64 ((((i : Nat) : Int)) + (1 : Int))))], M1, [qT (decide ((((i : Nat) : Int)) < (((n : Nat) : Int)))), .q (.inb (((i : Nat) : Int)) n) (ansB true), qS 3 b (0 + (((i : Nat) : Int) : Int).toNat * 1) (i64 by_) M M1]) := by kernel_rfl
theorem r4n (mp ab ob xb b n i : Nat) (by_ v : Int) (cr : List Value) {M M0 : Mem} (hM : MemOk M) (X0 : Ext M0 M) (nb : M0.next ≤ b) (gb : M.get b = some ⟨cr, 3, 1, 0, true⟩) (cc0 : (decide ((((i : Nat) : Int)) < (((n : Nat) : Int)))) = true) (hof0 : 0 + (((i : Nat) : Int) : Int).toNat * 1 + 1 ≤ (cr).length) : ∃ T1 M', Rd Try.prog [] (q6.loopAt 4) Try.f6.ntmps (fr [(2, (i64 by_)), (8, (pt mp 0)), (9, (pt ab 0)), (10, (pt ob 0)), (12, (pt xb 0)), (13, (i64 v)), (14, (sli b 0 n n)), (15, (i64 (((i : Nat) : Int))))]) M .normal T1 M' ∧ [2, 8, 9, 10, 12, 13, 14, 15].map T1.get = [some (i64 by_), some (pt mp 0), some (pt ab 0), some (pt ob 0), some (pt xb 0), some (i64 v), some (sli b 0 n n), some (i64 (IntKind.wrap .i64 ((((i : Nat) : Int)) + (1 : Int))))] ∧ Ext M0 M' ∧ MemOk M' ∧ M'.get b = some ⟨(splice cr (0 + (((i : Nat) : Int) : Int).toNat * 1) [(i64 by_)]), 3, 1, 0, true⟩ ∧ (∀ id k, M.get id = some k → id ≠ b → M'.get id = some k) := by
  obtain ⟨M1, q2, g3, kp4, X5, hM6, nx7⟩ := store_t (o := 0 + (((i : Nat) : Int) : Int).toNat * 1) (v := (i64 by_)) (new := splice cr (0 + (((i : Nat) : Int) : Int).toNat * 1) [(i64 by_)]) X0 nb hM dS3 gb rfl rfl (Nat.zero_le _) hof0 rfl
  replace g3 : M1.get b = some ⟨splice cr (0 + (((i : Nat) : Int) : Int).toNat * 1) [(i64 by_)], 3, 1, 0, true⟩ := g3
  have hraw := r4n_raw mp ab ob xb b n i by_ v cr M  M1
  have hkp : ∀ id k, M.get id = some k → id ≠ b → M1.get id = some k := fun id k g h_b => by
    have g0 := Mem.lt_of_get g
    have g := ((fun id h _ => kp4 id h) id h_b (Mem.lt_of_get g)).trans g
    exact g
  obtain ⟨T1, h1, h2⟩ := Rd.told noNumP mixedP (specs_none Try.prog) (fun _ _ => rfl) hraw (hk (bT cc0) (hk (q_inb (by omega) (by simp at cc0; omega)) (hk (q_st q2) hn)))
  exact ⟨T1, M1, h1, h2, X5, hM6, g3, hkp⟩
theorem r4x_raw (mp ab ob xb n ce i : Nat) (ae : Option Addr) (by_ v : Int) (M : Mem)  : oR Try.prog [] 60 Try.f6 (q6.loopAt 4) [(2, (i64 by_)), (8, (pt mp 0)), (9, (pt ab 0)), (10, (pt ob 0)), (12, (pt xb 0)), (13, (i64 v)), (14, (.slice ae n ce)), (15, (i64 (((i : Nat) : Int))))] M [ttT 5, ttF 8] [2, 8, 9, 10, 12, 13] = some ((.exit 4), [some (i64 by_), some (pt mp 0), some (pt ab 0), some (pt ob 0), some (pt xb 0), some (i64 v)], M, [.ln ae n ce, qF (decide ((((i : Nat) : Int)) < (((n : Nat) : Int))))]) := by kernel_rfl
theorem r4x (mp ab ob xb n ce i : Nat) (ae : Option Addr) (by_ v : Int) {M : Mem} (hln : ae.isNone = true → n = 0 ∧ ce = 0) (cc0 : (decide ((((i : Nat) : Int)) < (((n : Nat) : Int)))) = false) : ∃ T1, Rd Try.prog [] (q6.loopAt 4) Try.f6.ntmps (fr [(2, (i64 by_)), (8, (pt mp 0)), (9, (pt ab 0)), (10, (pt ob 0)), (12, (pt xb 0)), (13, (i64 v)), (14, (.slice ae n ce)), (15, (i64 (((i : Nat) : Int))))]) M (.exit 4) T1 M ∧ [2, 8, 9, 10, 12, 13].map T1.get = [some (i64 by_), some (pt mp 0), some (pt ab 0), some (pt ob 0), some (pt xb 0), some (i64 v)] := by
  have hraw := r4x_raw mp ab ob xb n ce i ae by_ v M  
  obtain ⟨T1, h1, h2⟩ := Rd.told noNumP mixedP (specs_none Try.prog) (fun _ _ => rfl) hraw (hk (lN hln) (hk (bF cc0) hn))
  exact ⟨T1, h1, h2⟩
theorem loop64o {mp ab ob xb nx : Nat} {by_ v : Int} {l : List Int} {S : Value} {M0 M : Mem} (hM : MemOk M) (X : Ext M0 M) (h : pOwnI l nx S M) (hn : M0.next ≤ nx) (hl : l.length ≤ 1000) :
    ∃ M', LoopR Try.prog [] (q6.loopAt 4) Try.f6.ntmps (fr [(2, i64 by_), (8, pt mp 0), (9, pt ab 0), (10, pt ob 0), (12, pt xb 0), (13, i64 v), (14, S), (15, i64 ((0 : Nat) : Int))]) M (.exit 4) (fr [(2, i64 by_), (8, pt mp 0), (9, pt ab 0), (10, pt ob 0), (12, pt xb 0), (13, i64 v)]) M' ∧ Ext M0 M' ∧ MemOk M' := by
  rcases h with ⟨rfl, rfl⟩ | ⟨b, rfl, h2, h3⟩
  · obtain ⟨_, M', h1, h2, h3⟩ := LoopR.for (P := Try.prog) (GL := []) (b := q6.loopAt 4) (nt := Try.f6.ntmps) (id := 4) (σ := Unit) (n := 0) (Inv := fun _ _ M1 => Ext M0 M1 ∧ MemOk M1)
      (F := fun i _ => [(2, i64 by_), (8, pt mp 0), (9, pt ab 0), (10, pt ob 0), (12, pt xb 0), (13, i64 v), (14, sln), (15, i64 ((i : Nat) : Int))]) (O := fun _ => [(2, i64 by_), (8, pt mp 0), (9, pt ab 0), (10, pt ob 0), (12, pt xb 0), (13, i64 v)])
      (by rintro i _ M1 hi; omega)
      (by
        rintro _ M1 ⟨X1, hM1⟩
        exact r4x mp ab ob xb 0 0 0 none by_ v (fun _ => ⟨rfl, rfl⟩) (decide_eq_false (by omega)))
      0 0 (by omega) (s := ()) (M := M) ⟨X, hM⟩
    exact ⟨M', h1, h2, h3⟩
  · obtain ⟨_, M', k1, k2, k3, _⟩ := LoopR.for (P := Try.prog) (GL := []) (b := q6.loopAt 4) (nt := Try.f6.ntmps) (id := 4) (σ := Unit) (n := l.length) (Inv := fun i _ M1 => Ext M0 M1 ∧ MemOk M1 ∧ ∃ cr : List Value, cr.length = l.length ∧ M1.get b = some ⟨cr, 3, 1, 0, true⟩)
      (F := fun i _ => [(2, i64 by_), (8, pt mp 0), (9, pt ab 0), (10, pt ob 0), (12, pt xb 0), (13, i64 v), (14, sli b 0 l.length l.length), (15, i64 ((i : Nat) : Int))]) (O := fun _ => [(2, i64 by_), (8, pt mp 0), (9, pt ab 0), (10, pt ob 0), (12, pt xb 0), (13, i64 v)])
      (by
        rintro i _ M1 hi ⟨X1, hM1, cr, hc, hb⟩
        obtain ⟨T1, M2, h1, h2', h3', h4, h5, _⟩ := r4n mp ab ob xb b l.length i by_ v cr hM1 X1 (Nat.le_trans hn h2) hb (decide_eq_true (by omega)) (by rw [Int.toNat_natCast]; omega)
        rw [wrap_succ (by omega)] at h2'
        exact ⟨(), T1, M2, h1, h2', h3', h4, _, by rw [Int.toNat_natCast]; rw [splice_length]; exact hc, h5⟩)
      (by
        rintro _ M1 ⟨X1, hM1, _⟩
        exact r4x mp ab ob xb l.length l.length l.length (some ⟨b, 0, none⟩) by_ v (fun h => by cases h) (decide_eq_false (by omega)))
      l.length 0 (by omega) (s := ()) (M := M) ⟨X, hM, _, by rw [show (l.map iRow).flatten = l.map i64 from flat1 l, List.length_map], h3⟩
    exact ⟨M', k1, k2, k3⟩
end Go.Proofs.Ytipnhelkganmdaa

open Go Go.Am Go.Proofs
namespace Go.Proofs.Ytipnhelkganmdaa
set_option maxRecDepth 100000
set_option linter.unusedVariables false
set_option linter.unusedSimpArgs false
theorem hS6_15 (B : Bd) : ∀ p ∈ ([(15, pick (Con Try.prog [] 15 Q15))] : List (FuncId × (List Value → Mem → Option (Value × Mem)))), SpecOk Try.prog [] B p.1 p.2 := (fun p hp => by simp only [List.mem_cons, List.not_mem_nil, or_false] at hp; rcases hp with rfl <;> first | exact Con.ok _ | exact TC.ok _)
theorem r60n_raw (q mp ab ob b k n i : Nat) (by_ : Int) (cr : List Value) (M : Mem) (M10 : Mem) (M22 : Mem) (M31 : Mem) : oR Try.prog [] 60 Try.f6 (q6.loopAt 0) [(2, (i64 by_)), (7, (pt q 0)), (8, (pt mp 0)), (9, (pt ab 0)), (10, (pt ob 0)), (11, (i64 (((i : Nat) : Int))))] M [ttL 5 (sli b 0 k k), ttT 10, ttL 14 (sli b 0 k k), ttL 20 (sli b 0 k k), ttV 26 (i64 (modI by_ (5 : Int))) M10, ttT 28, ttS 32 M22, ttT 34, ttS 38 M31] [2, 7, 8, 9, 10, 11] = some (.normal, [some (i64 by_), some (pt q 0), some (pt mp 0), some (pt ab 0), some (pt ob 0), some (i64 (IntKind.wrap .i64 ((((i : Nat) : Int)) + (1 : Int))))], (Mem.mk M31.blks M31.next M.hide (M31.log ++ M.log)), [qL 24 q 1 M (sli b 0 k k), qT (decide ((((i : Nat) : Int)) < (((k : Nat) : Int)))), qL 24 q 1 (Mem.mk M.blks M.next M.hide []) (sli b 0 k k), qT (Nat.blt q M.next), qL 24 q 1 (Mem.mk M.blks M.next M.hide []) (sli b 0 k k), qT (Nat.blt q M.next), qC 15 [(i64 by_), (i64 5)] (Mem.mk M.blks M.next M.hide []) (i64 (modI by_ (5 : Int))) M10, .q (.inb (((i : Nat) : Int)) k) (ansB true), qS 3 b (0 + (((i : Nat) : Int) : Int).toNat * 4) (i64 0) (Mem.mk M10.blks M10.next M.hide M10.log) M22, .q (.inb (((i : Nat) : Int)) k) (ansB true), qS 3 b (0 + (((i : Nat) : Int) : Int).toNat * 4 + 2) (i64 (modI by_ (5 : Int))) (Mem.mk M22.blks M22.next M.hide M22.log) M31, qT (apartN [q, q] M31.log)]) := by kernel_rfl
theorem r60n (q mp ab ob b k n i : Nat) (by_ : Int) (cr : List Value) {M M0 : Mem} (hM : MemOk M) (X0 : Ext M0 M) (gq : M.get q = some ⟨[i64 ((n : Nat) : Int), sli b 0 k k], 26, 2, 0, true⟩) (nb : M0.next ≤ b) (gb : M.get b = some ⟨cr, 32, 4, 0, true⟩) (dqb : q ≠ b) (cc0 : (decide ((((i : Nat) : Int)) < (((k : Nat) : Int)))) = true) (hof0 : 0 + (((i : Nat) : Int) : Int).toNat * 4 + 1 ≤ (cr).length) (hof1 : 0 + (((i : Nat) : Int) : Int).toNat * 4 + 2 + 1 ≤ ((splice cr (0 + (((i : Nat) : Int) : Int).toNat * 4) [(i64 0)])).length) : ∃ T1 M', Rd Try.prog [] (q6.loopAt 0) Try.f6.ntmps (fr [(2, (i64 by_)), (7, (pt q 0)), (8, (pt mp 0)), (9, (pt ab 0)), (10, (pt ob 0)), (11, (i64 (((i : Nat) : Int))))]) M .normal T1 M' ∧ [2, 7, 8, 9, 10, 11].map T1.get = [some (i64 by_), some (pt q 0), some (pt mp 0), some (pt ab 0), some (pt ob 0), some (i64 (IntKind.wrap .i64 ((((i : Nat) : Int)) + (1 : Int))))] ∧ Ext M0 M' ∧ MemOk M' ∧ M'.get q = some ⟨[(i64 (((n : Nat) : Int))), (sli b 0 k k)], 26, 2, 0, true⟩ ∧ M'.get b = some ⟨(splice (splice cr (0 + (((i : Nat) : Int) : Int).toNat * 4) [(i64 0)]) (0 + (((i : Nat) : Int) : Int).toNat * 4 + 2) [(i64 (modI by_ (5 : Int)))]), 32, 4, 0, true⟩ ∧ (∀ id k, M.get id = some k → id ≠ q → id ≠ b → M'.get id = some k) := by
  obtain ⟨R1, eR2⟩ : ∃ m : Mem, m = Mem.mk M.blks M.next M.hide [] := ⟨_, rfl⟩
  have X3 : Ext (Mem.mk M0.blks M0.next M0.hide []) R1 := by rw [eR2]; exact Ext.aside (X0)
  have lg4 : R1.log = [] := by rw [eR2]
  have nxR1 : R1.next = M.next := by rw [eR2]
  have hM5 : MemOk R1 := by rw [eR2]; exact MemOk.log hM
  have ltqM : q < M.next := by have h := Mem.lt_of_get gq; exact h
  have g6 : R1.get q = some ⟨[(i64 (((n : Nat) : Int))), (sli b 0 k k)], 26, 2, 0, true⟩ := by rw [eR2]; exact gq
  have ltbM : b < M.next := by have h := Mem.lt_of_get gb; exact h
  have g7 : R1.get b = some ⟨cr, 32, 4, 0, true⟩ := by rw [eR2]; exact gb
  obtain ⟨w8, N9, M10, p11, l12, e13, E14, hM15, F16⟩ := call_fc (x := (by_, (5 : Int))) hM5 con15 (⟨⟨_, _, rfl, rfl, rfl⟩, rfl⟩)
  have nx17 := E14.next
  have g18 := E14.old g6
  have g19 := E14.old g7
  have ew8 : w8 = (i64 (modI by_ (5 : Int))) := F16
  subst ew8
  have lg20 : M10.log = [] := by rw [← e13]; exact lg4
  have X21 := X3.trans E14
  obtain ⟨M22, q23, g24, kp25, X26, hM27, nx28⟩ := store_t (o := 0 + (((i : Nat) : Int) : Int).toNat * 4) (v := (i64 0)) (new := splice cr (0 + (((i : Nat) : Int) : Int).toNat * 4) [(i64 0)]) X21 nb hM15 dS3 g19 rfl rfl (Nat.zero_le _) hof0 rfl
  replace g24 : M22.get b = some ⟨splice cr (0 + (((i : Nat) : Int) : Int).toNat * 4) [(i64 0)], 32, 4, 0, true⟩ := g24
  have g29 := (kp25 _ dqb).trans g18
  have lg30 : M22.log = [b] := by rw [nx28, lg20]
  obtain ⟨M31, q32, g33, kp34, X35, hM36, nx37⟩ := store_t (o := 0 + (((i : Nat) : Int) : Int).toNat * 4 + 2) (v := (i64 (modI by_ (5 : Int)))) (new := splice (splice cr (0 + (((i : Nat) : Int) : Int).toNat * 4) [(i64 0)]) (0 + (((i : Nat) : Int) : Int).toNat * 4 + 2) [(i64 (modI by_ (5 : Int)))]) X26 nb hM27 dS3 g24 rfl rfl (Nat.zero_le _) hof1 rfl
  replace g33 : M31.get b = some ⟨splice (splice cr (0 + (((i : Nat) : Int) : Int).toNat * 4) [(i64 0)]) (0 + (((i : Nat) : Int) : Int).toNat * 4 + 2) [(i64 (modI by_ (5 : Int)))], 32, 4, 0, true⟩ := g33
  have g38 := (kp34 _ dqb).trans g29
  have lg39 : M31.log = [b, b] := by rw [nx37, lg30]
  obtain ⟨M40, ef41⟩ : ∃ m : Mem, m = (Mem.mk M31.blks M31.next M31.hide (M31.log ++ M.log)) := ⟨_, rfl⟩
  have X42 : Ext M0 M40 := by rw [ef41]; exact Ext.join (X0) (X35)
  have hM43 : MemOk M40 := by rw [ef41]; exact hM36
  have g44 : M40.get q = some ⟨[(i64 (((n : Nat) : Int))), (sli b 0 k k)], 26, 2, 0, true⟩ := by rw [ef41]; exact g38
  have g45 : M40.get b = some ⟨(splice (splice cr (0 + (((i : Nat) : Int) : Int).toNat * 4) [(i64 0)]) (0 + (((i : Nat) : Int) : Int).toNat * 4 + 2) [(i64 (modI by_ (5 : Int)))]), 32, 4, 0, true⟩ := by rw [ef41]; exact g33
  have hraw := r60n_raw q mp ab ob b k n i by_ cr M  M10 M22 M31
  have rw0 : Mem.mk M.blks M.next M.hide [] = R1 := eR2.symm
  have rw1 : Mem.mk M10.blks M10.next M.hide M10.log = M10 := by rw [(show M.hide = M10.hide from ((X0).hide.trans (X21).hide.symm))]
  have rw2 : Mem.mk M22.blks M22.next M.hide M22.log = M22 := by rw [(show M.hide = M22.hide from ((X0).hide.trans (X26).hide.symm))]
  have rw3 : Mem.mk M31.blks M31.next M.hide M31.log = M31 := by rw [(show M.hide = M31.hide from ((X0).hide.trans (X35).hide.symm))]
  have rw4 : (Mem.mk M31.blks M31.next M.hide (M31.log ++ M.log)) = (Mem.mk M31.blks M31.next M31.hide (M31.log ++ M.log)) := by rw [(show M.hide = M31.hide from ((X0).hide.trans (X35).hide.symm))]
  have rw5 : (Mem.mk M31.blks M31.next M31.hide (M31.log ++ M.log)) = M40 := ef41.symm
  try rw [rw0] at hraw
  try rw [rw1] at hraw
  try rw [rw2] at hraw
  try rw [rw3] at hraw
  try rw [rw4] at hraw
  try rw [rw5] at hraw
  have hkp : ∀ id k, M.get id = some k → id ≠ q → id ≠ b → M40.get id = some k := fun id k g h_q h_b => by
    have g0 := Mem.lt_of_get g
    have g : R1.get id = some k := by rw [eR2]; exact g
    have g := E14.old g
    have g := ((fun id h _ => kp25 id h) id h_b (Mem.lt_of_get g)).trans g
    have g := ((fun id h _ => kp34 id h) id h_b (Mem.lt_of_get g)).trans g
    have g : M40.get id = some k := by rw [ef41]; exact g
    exact g
  obtain ⟨T1, h1, h2⟩ := Rd.told noNumP mixedP (fun B => specsB_ok (k := []) (hS6_15 B) (fun p hp => by cases hp)) (fun _ _ => rfl) hraw (hk (lC dC24 gq rfl) (hk (bT cc0) (hk (lC dC24 g6 rfl) (hk (q_lt ltqM) (hk (lC dC24 g6 rfl) (hk (q_lt ltqM) (hk (q_call rfl p11 l12 e13) (hk (q_inb (by omega) (by simp at cc0; omega)) (hk (q_st q23) (hk (q_inb (by omega) (by simp at cc0; omega)) (hk (q_st q32) (hk (q_apart (by rw [lg39]; simp <;> omega)) hn))))))))))))
  exact ⟨T1, M40, h1, h2, X42, hM43, g44, g45, hkp⟩
theorem r60x_raw (q mp ab ob k ce n i : Nat) (ae : Option Addr) (by_ : Int) (M : Mem)  : oR Try.prog [] 60 Try.f6 (q6.loopAt 0) [(2, (i64 by_)), (7, (pt q 0)), (8, (pt mp 0)), (9, (pt ab 0)), (10, (pt ob 0)), (11, (i64 (((i : Nat) : Int))))] M [ttL 5 (.slice ae k ce), ttT 7, ttF 10] [2, 7, 8, 9, 10] = some ((.exit 0), [some (i64 by_), some (pt q 0), some (pt mp 0), some (pt ab 0), some (pt ob 0)], M, [qL 24 q 1 M (.slice ae k ce), .ln ae k ce, qF (decide ((((i : Nat) : Int)) < (((k : Nat) : Int))))]) := by kernel_rfl
theorem r60x (q mp ab ob k ce n i : Nat) (ae : Option Addr) (by_ : Int) {M : Mem} (hln : ae.isNone = true → k = 0 ∧ ce = 0) (gq : M.get q = some ⟨[i64 ((n : Nat) : Int), .slice ae k ce], 26, 2, 0, true⟩) (cc0 : (decide ((((i : Nat) : Int)) < (((k : Nat) : Int)))) = false) : ∃ T1, Rd Try.prog [] (q6.loopAt 0) Try.f6.ntmps (fr [(2, (i64 by_)), (7, (pt q 0)), (8, (pt mp 0)), (9, (pt ab 0)), (10, (pt ob 0)), (11, (i64 (((i : Nat) : Int))))]) M (.exit 0) T1 M ∧ [2, 7, 8, 9, 10].map T1.get = [some (i64 by_), some (pt q 0), some (pt mp 0), some (pt ab 0), some (pt ob 0)] := by
  have hraw := r60x_raw q mp ab ob k ce n i ae by_ M  
  obtain ⟨T1, h1, h2⟩ := Rd.told noNumP mixedP (specs_none Try.prog) (fun _ _ => rfl) hraw (hk (lC dC24 gq rfl) (hk (lN hln) (hk (bF cc0) hn)))
  exact ⟨T1, h1, h2⟩
theorem loop60o {q mp ab ob nx n : Nat} {by_ : Int} {l : List E4} {S : Value} {M0 M : Mem} (hM : MemOk M) (X : Ext M0 M) (h : OwnE nx l S M) (hn : M0.next ≤ nx) (hl : l.length ≤ 400) (gq : M.get q = some ⟨[i64 ((n : Nat) : Int), S], 26, 2, 0, true⟩) (dq : ∀ o m c, S ≠ sli q o m c) :
    ∃ M', LoopR Try.prog [] (q6.loopAt 0) Try.f6.ntmps (fr [(2, i64 by_), (7, pt q 0), (8, pt mp 0), (9, pt ab 0), (10, pt ob 0), (11, i64 ((0 : Nat) : Int))]) M (.exit 0) (fr [(2, i64 by_), (7, pt q 0), (8, pt mp 0), (9, pt ab 0), (10, pt ob 0)]) M' ∧ Ext M0 M' ∧ MemOk M' ∧ ∀ id k, M.get id = some k → (∀ o m c, S ≠ sli id o m c) → M'.get id = some k := by
  rcases h with ⟨rfl, rfl⟩ | ⟨b, rfl, h2, h3, h4⟩
  · obtain ⟨_, M', h1, h2, h3, h4⟩ := LoopR.for (P := Try.prog) (GL := []) (b := q6.loopAt 0) (nt := Try.f6.ntmps) (id := 0) (σ := Unit) (n := 0) (Inv := fun _ _ M1 => Ext M0 M1 ∧ MemOk M1 ∧ (∀ id k, M.get id = some k → M1.get id = some k))
      (F := fun i _ => [(2, i64 by_), (7, pt q 0), (8, pt mp 0), (9, pt ab 0), (10, pt ob 0), (11, i64 ((i : Nat) : Int))]) (O := fun _ => [(2, i64 by_), (7, pt q 0), (8, pt mp 0), (9, pt ab 0), (10, pt ob 0)])
      (by rintro i _ M1 hi; omega)
      (by
        rintro _ M1 ⟨X1, hM1, hk1⟩
        exact r60x q mp ab ob 0 0 n 0 none by_ (fun _ => ⟨rfl, rfl⟩) (hk1 _ _ gq) (decide_eq_false (by omega)))
      0 0 (by omega) (s := ()) (M := M) ⟨X, hM, fun _ _ h => h⟩
    exact ⟨M', h1, h2, h3, fun id k g _ => h4 id k g⟩
  · have dqb : q ≠ b := fun e => dq 0 l.length l.length (by rw [e])
    obtain ⟨_, M', k1, k2, k3, _, k5⟩ := LoopR.for (P := Try.prog) (GL := []) (b := q6.loopAt 0) (nt := Try.f6.ntmps) (id := 0) (σ := Unit) (n := l.length) (Inv := fun i _ M1 => Ext M0 M1 ∧ MemOk M1 ∧ (∃ cr : List Value, cr.length = l.length * 4 ∧ M1.get b = some ⟨cr, 32, 4, 0, true⟩) ∧ (∀ id k, M.get id = some k → id ≠ b → M1.get id = some k))
      (F := fun i _ => [(2, i64 by_), (7, pt q 0), (8, pt mp 0), (9, pt ab 0), (10, pt ob 0), (11, i64 ((i : Nat) : Int))]) (O := fun _ => [(2, i64 by_), (7, pt q 0), (8, pt mp 0), (9, pt ab 0), (10, pt ob 0)])
      (by
        rintro i _ M1 hi ⟨X1, hM1, ⟨cr, hc, hb⟩, hk1⟩
        obtain ⟨T1, M2, h1, h2', h3', h4', hq2, h5, h6⟩ := r60n q mp ab ob b l.length n i by_ cr hM1 X1 (hk1 _ _ gq dqb) (Nat.le_trans hn h3) hb dqb (decide_eq_true (by omega)) (by rw [Int.toNat_natCast]; omega) (by rw [splice_length, Int.toNat_natCast]; omega)
        rw [wrap_succ (by omega)] at h2'
        exact ⟨(), T1, M2, h1, h2', h3', h4', ⟨_, by rw [splice_length, splice_length]; exact hc, h5⟩, fun id k g d => if e : id = q then (by subst e; rw [gq] at g; cases g; exact hq2) else h6 id k (hk1 id k g d) e d⟩)
      (by
        rintro _ M1 ⟨X1, hM1, _, hk1⟩
        exact r60x q mp ab ob l.length l.length n l.length (some ⟨b, 0, none⟩) by_ (fun h => by cases h) (hk1 _ _ gq dqb) (decide_eq_false (by omega)))
      l.length 0 (by omega) (s := ()) (M := M) ⟨X, hM, ⟨_, by rw [erowL], h4⟩, fun _ _ h _ => h⟩
    exact ⟨M', k1, k2, k3, fun id k g d => k5 id k g (fun e => d 0 l.length l.length (by rw [e]))⟩
end Go.Proofs.Ytipnhelkganmdaa
