/-
  Package adj: each of its laws for every argument; no conditions. The last text states which.
-/
import Derived.Test.YtipnhelkganmdaaUP7
open Go Go.Am Go.Proofs
namespace Go.Proofs.Ytipnhelkganmdaa
set_option maxRecDepth 100000
set_option linter.unusedVariables false
set_option linter.unusedSimpArgs false
theorem r43_raw (ab bb o m c i sb so k cs_ : Nat) (s x z : Int) (vo vi vt : Value) (M : Mem)  : oR Try.prog [] 51 Try.f33 (q33.loopAt 0) [(0, (pt ab 0)), (5, (i64 s)), (8, (sli bb o m c)), (9, (i64 (((m : Nat) : Int)))), (10, (i64 (((i : Nat) : Int))))] M [ttT 2, ttT 4, ttL 6 (i64 x), ttL 18 (sli sb so k cs_), ttT 22, ttL 24 (i64 z)] [0, 5, 8, 9, 10] = some (.normal, [some (pt ab 0), some (i64 (orI s z)), some (sli bb o m c), some (i64 (((m : Nat) : Int))), some (i64 (IntKind.wrap .i64 ((((i : Nat) : Int)) + (1 : Int))))], M, [qT (decide ((((i : Nat) : Int)) < (((m : Nat) : Int)))), .q (.inb (((i : Nat) : Int)) m) (ansB true), qL 3 bb (o + (((i : Nat) : Int) : Int).toNat * 1) M (i64 x), qL 22 ab 3 M (sli sb so k cs_), .q (.inb x k) (ansB true), qL 3 sb (so + (x : Int).toNat * 1) M (i64 z)]) := by kernel_rfl
theorem r43 (ab bb o m c i sb so k cs_ : Nat) (s x z : Int) (vo vi vt : Value) {M : Mem} {M0 : Mem} (X0 : Ext M0 M) (gab : M.get ab = some ⟨[vo, vi, vt, sli sb so k cs_], 48, 4, 0, true⟩) (cc0 : (decide ((((i : Nat) : Int)) < (((m : Nat) : Int)))) = true) (hld0 : aload Try.prog 3 ⟨bb, o + (((i : Nat) : Int) : Int).toNat * 1, none⟩ M0 = some (i64 x)) (hi1 : 0 ≤ (x : Int) ∧ (x : Int) < k) (hld2 : aload Try.prog 3 ⟨sb, so + (x : Int).toNat * 1, none⟩ M0 = some (i64 z)) : ∃ T1, Rd Try.prog [] (q33.loopAt 0) Try.f33.ntmps (fr [(0, (pt ab 0)), (5, (i64 s)), (8, (sli bb o m c)), (9, (i64 (((m : Nat) : Int)))), (10, (i64 (((i : Nat) : Int))))]) M .normal T1 M ∧ [0, 5, 8, 9, 10].map T1.get = [some (pt ab 0), some (i64 (orI s z)), some (sli bb o m c), some (i64 (((m : Nat) : Int))), some (i64 (IntKind.wrap .i64 ((((i : Nat) : Int)) + (1 : Int))))] := by
  have hraw := r43_raw ab bb o m c i sb so k cs_ s x z vo vi vt M  
  obtain ⟨T1, h1, h2⟩ := Rd.told noNumP mixedP (specs_none Try.prog) (fun _ _ => rfl) hraw (hk (bT cc0) (hk (q_inb (by omega) (by simp at cc0; omega)) (hk (q_ld (aload_ext X0 hld0)) (hk (lC dC22 gab rfl) (hk (q_inb hi1.1 hi1.2) (hk (q_ld (aload_ext X0 hld2)) hn))))))
  exact ⟨T1, h1, h2⟩
theorem r43x_raw (ab : Nat) (a : Option Addr) (m c i : Nat) (s : Int) (M : Mem)  : oR Try.prog [] 51 Try.f33 (q33.loopAt 0) [(0, (pt ab 0)), (5, (i64 s)), (8, (.slice a m c)), (9, (i64 (((m : Nat) : Int)))), (10, (i64 (((i : Nat) : Int))))] M [ttF 2] [5] = some ((.exit 0), [some (i64 s)], M, [qF (decide ((((i : Nat) : Int)) < (((m : Nat) : Int))))]) := by kernel_rfl
theorem r43x (ab : Nat) (a : Option Addr) (m c i : Nat) (s : Int) {M : Mem} (cc0 : (decide ((((i : Nat) : Int)) < (((m : Nat) : Int)))) = false) : ∃ T1, Rd Try.prog [] (q33.loopAt 0) Try.f33.ntmps (fr [(0, (pt ab 0)), (5, (i64 s)), (8, (.slice a m c)), (9, (i64 (((m : Nat) : Int)))), (10, (i64 (((i : Nat) : Int))))]) M (.exit 0) T1 M ∧ [5].map T1.get = [some (i64 s)] := by
  have hraw := r43x_raw ab a m c i s M  
  obtain ⟨T1, h1, h2⟩ := Rd.told noNumP mixedP (specs_none Try.prog) (fun _ _ => rfl) hraw (hk (bF cc0) hn)
  exact ⟨T1, h1, h2⟩
theorem loop43 {ab : Nat} {a as_ : Option Addr} {c cs_ : Nat} {es set : List Int} {vo vi vt : Value} {M : Mem} (hM : MemOk M) (hs : pInts es (.slice a es.length c) M) (gab : M.get ab = some ⟨[vo, vi, vt, .slice as_ set.length cs_], 48, 4, 0, true⟩) (hset : pInts set (.slice as_ set.length cs_) M) (hb : ∀ j ∈ es, 0 ≤ j ∧ j < (set.length : Int)) :
    ∃ M', LoopR Try.prog [] (q33.loopAt 0) Try.f33.ntmps (fr [(0, pt ab 0), (5, i64 0), (8, .slice a es.length c), (9, i64 ((es.length : Nat) : Int)), (10, i64 ((0 : Nat) : Int))]) M (.exit 0) (fr [(5, i64 (unionI set es))]) M' ∧ Ext M M' ∧ MemOk M' := by
  have hlen := hs.len
  obtain ⟨_, M', h1, h2, h3, h4⟩ := LoopR.for (P := Try.prog) (GL := []) (b := q33.loopAt 0) (nt := Try.f33.ntmps) (id := 0) (σ := Unit) (n := es.length) (Inv := fun i _ M1 => Ext M M1 ∧ MemOk M1 ∧ True)
    (F := fun i _ => [(0, pt ab 0), (5, i64 (unionI set (es.take i))), (8, .slice a es.length c), (9, i64 ((es.length : Nat) : Int)), (10, i64 ((i : Nat) : Int))])
    (O := fun _ => [(5, i64 (unionI set (es.take es.length)))])
    (by
      rintro i _ M1 hi ⟨X1, hM1, _⟩
      obtain ⟨bb, o, rfl, _⟩ := form_pos hs (by omega)
      have ht : es[i]? = some es[i] := List.getElem?_eq_getElem hi
      have hbi := hb _ (List.getElem_mem hi)
      obtain ⟨sb, so, rfl, _⟩ := form_pos hset (by omega)
      have hz : set[(es[i]).toNat]? = some set[(es[i]).toNat] := List.getElem?_eq_getElem (by omega)
      obtain ⟨T1, h1, h2⟩ := r43 ab bb o es.length c i sb so set.length cs_ (unionI set (es.take i)) es[i] set[(es[i]).toNat] vo vi vt (M := M1) X1 (X1.old gab) (decide_eq_true (by omega)) (ld_one (P := Try.prog) (ty := 3) hs ht rfl dC3) hbi (ld_one (P := Try.prog) (ty := 3) hset hz rfl dC3)
      rw [wrap_succ (by omega)] at h2
      refine ⟨(), T1, M1, h1, ?_, X1, hM1, trivial⟩
      rw [List.take_succ_eq_append_getElem hi]
      unfold unionI
      rw [List.foldl_append]
      simp only [List.foldl_cons, List.foldl_nil, hz, Option.getD_some]
      exact h2)
    (by
      rintro _ M1 ⟨X1, hM1, _⟩
      exact r43x ab a es.length c es.length _ (M := M1) (decide_eq_false (by omega)))
    es.length 0 (by omega) (s := ()) (M := M) ⟨Ext.refl M, hM, trivial⟩
  rw [List.take_length] at h1
  exact ⟨M', h1, h2, h3⟩
theorem rK33 : Try.f33.results = #[.tmp 4] := by kernel_rfl
theorem w43_raw (ab Eo Ei : Nat) (co ci : Nat) (at_ : Option Addr) (ct : Nat) (as_ : Option Addr) (cs_ : Nat) (ad : AdjM) (ae : Option Addr) (ce : Nat) (es : List Int) (M : Mem) (M1 : Mem) : oT Try.prog [0] 60 Try.f33 q33 [(pt ab 0), (.slice ae es.length ce)] M [ttT 7, .blk 10 [0, 5, 8, 9, 10] .normal (fr [(5, (i64 (unionI ad.set es)))]) M1] 4 = some (.ret, some (i64 (unionI ad.set es)), M1, [.ln ae es.length ce, .blk 0 (.loop (q33.loopAt 0)) Try.f33.ntmps [0, 5, 8, 9, 10] [some (pt ab 0), some (i64 0), some (.slice ae es.length ce), some (i64 (((es.length : Nat) : Int))), some (i64 0)] M .normal (fr [(5, (i64 (unionI ad.set es)))]) M1]) := by kernel_rfl
theorem w43 (ab Eo Ei : Nat) (co ci : Nat) (at_ : Option Addr) (ct : Nat) (as_ : Option Addr) (cs_ : Nat) (ad : AdjM) (ae : Option Addr) (ce : Nat) (es : List Int) {M : Mem} (hM : MemOk M) (gab : M.get ab = some ⟨[sli Eo 0 ad.out.length co, sli Ei 0 ad.inn.length ci, .slice at_ ad.to.length ct, .slice as_ ad.set.length cs_], 48, 4, 0, true⟩) (hout : pRowss ad.out (sli Eo 0 ad.out.length co) M) (hinn : pRowss ad.inn (sli Ei 0 ad.inn.length ci) M) (hto : pInts ad.to (.slice at_ ad.to.length ct) M) (hset : pInts ad.set (.slice as_ ad.set.length cs_) M) (hok : okA ad) (hes : pInts es (.slice ae es.length ce) M) (hb : ∀ j ∈ es, 0 ≤ j ∧ j < (ad.set.length : Int)) : ∃ v_ M', Ev Try.prog [] 33 [(pt ab 0), (.slice ae es.length ce)] M v_ M' ∧ Ext M M' ∧ MemOk M' ∧ v_ = i64 (unionI ad.set es) := by
  obtain ⟨M1, hL2, E3, hM4⟩ := loop43 hM (AP.Ext (R := pInts) hes (Ext.refl M)) gab (AP.Ext (R := pInts) hset (Ext.refl M)) hb
  have nx5 := E3.next
  have g6 := E3.old gab
  have X7 := (Ext.refl M).trans E3
  have hraw := w43_raw ab Eo Ei co ci at_ ct as_ cs_ ad ae ce es M  M1
  exact ⟨(i64 (unionI ad.set es)), M1, Ev.told_tmp noNumP mixedP Try.func33 q33_ok (by kernel_rfl) rK33 (fun B => specsB_ok (l := []) (fun p hp => by cases hp) (k := [(0, bone (.loop (q33.loopAt 0)) Try.f33.ntmps [0, 5, 8, 9, 10] [some (pt ab 0), some (i64 0), some (.slice ae es.length ce), some (i64 (((es.length : Nat) : Int))), some (i64 0)] M .normal (fr [(5, (i64 (unionI ad.set es)))]) M1)]) (fun p hp => by simp only [List.mem_cons, List.not_mem_nil, or_false] at hp; rcases hp with rfl <;> first | exact BlkOk.loop noNumP mixedP hL2)) (fun _ h => blksF_one h) hraw (hk (lN hes.ln) (hk (q_blk rfl) hn)), X7, hM4, rfl⟩
abbrev Q33 := FC (asP (as2 (pAdj 48) pInts) fun x => okA x.1 ∧ ∀ j ∈ x.2, 0 ≤ j ∧ j < (x.1.set.length : Int)) (plain pI) (fun x => unionI x.1.set x.2)
theorem con33 {x : AdjM × List Int} {lv : List Value} {M : Mem} (hM : MemOk M) (h : (asP (as2 (pAdj 48) pInts) fun x : AdjM × List Int => okA x.1 ∧ ∀ j ∈ x.2, 0 ≤ j ∧ j < (x.1.set.length : Int)) x lv M) : ∃ v M', Con Try.prog [] 33 Q33 lv M v M' := by
  refine FC.con h ?_
  obtain ⟨⟨g0, g1, rfl, k0, k1⟩, hok, hb⟩ := h
  obtain ⟨ad, es⟩ := x
  obtain ⟨ae, ce, rfl⟩ := GRowsAt.form k1
  obtain ⟨ab, o, i_, t, s, rfl, gab, hout, hinn, hto, hset⟩ := k0
  obtain ⟨Eo, co, rfl⟩ := rowss_form hout
  obtain ⟨Ei, ci, rfl⟩ := rowss_form hinn
  obtain ⟨at_, ct, rfl⟩ := GRowsAt.form hto
  obtain ⟨as_, cs_, rfl⟩ := GRowsAt.form hset
  obtain ⟨v', M', h1, h2, _, h3⟩ := w43 ab Eo Ei co ci at_ ct as_ cs_ ad ae ce es hM gab hout hinn hto hset hok k1 hb
  exact ⟨v', M', h1, h2, h3⟩
theorem rK18 : Try.f18.results = #[.tmp 4] := by kernel_rfl
theorem hS29_43_44 (B : Bd) : ∀ p ∈ ([(33, pick (Con Try.prog [] 33 Q33)), (31, pick (Con Try.prog [] 31 Q31))] : List (FuncId × (List Value → Mem → Option (Value × Mem)))), SpecOk Try.prog [] B p.1 p.2 := (fun p hp => by simp only [List.mem_cons, List.not_mem_nil, or_false] at hp; rcases hp with rfl | rfl <;> first | exact Con.ok _)
theorem w29_raw (ab Eo Ei : Nat) (co ci : Nat) (at_ : Option Addr) (ct : Nat) (as_ : Option Addr) (cs_ : Nat) (ad : AdjM) (v : Int) (M : Mem) (a7 : Option Addr) (c8 : Nat) (M12 : Mem) (M25 : Mem) (a37 : Option Addr) (c38 : Nat) (M42 : Mem) (M56 : Mem) : oT Try.prog [] 51 Try.f18 q18 [(pt ab 0), (i64 v)] M [ttL 11 (sli Eo 0 ad.out.length co), ttV 15 (.slice a7 (rowV ad.out v).length c8) M12, ttV 17 (i64 (unionI ad.set (rowV ad.out v))) M25, ttL 27 (sli Ei 0 ad.inn.length ci), ttV 31 (.slice a37 (rowV ad.inn v).length c38) M42, ttV 33 (i64 (unionI ad.set (rowV ad.inn v))) M56] 4 = some (.ret, some (i64 (orI (unionI ad.set (rowV ad.out v)) (unionI ad.set (rowV ad.inn v)))), (Mem.mk M56.blks M56.next M.hide (M56.log ++ M.log)), [qL 46 ab 0 (Mem.mk M.blks M.next M.hide []) (sli Eo 0 ad.out.length co), qC 31 [(sli Eo 0 ad.out.length co), (i64 v)] (Mem.mk M.blks M.next M.hide []) (.slice a7 (rowV ad.out v).length c8) M12, qC 33 [(pt ab 0), (.slice a7 (rowV ad.out v).length c8)] (Mem.mk M12.blks M12.next M.hide M12.log) (i64 (unionI ad.set (rowV ad.out v))) M25, qL 46 ab 1 (Mem.mk M25.blks M25.next (hides 3584 [⟨7, 1, M12.next, M25.next⟩, ⟨6, 1, M.next, M12.next⟩, ⟨4, 1, M.next, M.next⟩] ++ M.hide) M25.log) (sli Ei 0 ad.inn.length ci), qT (Nat.blt ab M.next), qC 31 [(sli Ei 0 ad.inn.length ci), (i64 v)] (Mem.mk M25.blks M25.next M.hide M25.log) (.slice a37 (rowV ad.inn v).length c38) M42, qC 33 [(pt ab 0), (.slice a37 (rowV ad.inn v).length c38)] (Mem.mk M42.blks M42.next M.hide M42.log) (i64 (unionI ad.set (rowV ad.inn v))) M56, qT (apartN [ab] M56.log)]) := by kernel_rfl
theorem w29 (ab Eo Ei : Nat) (co ci : Nat) (at_ : Option Addr) (ct : Nat) (as_ : Option Addr) (cs_ : Nat) (ad : AdjM) (v : Int) {M : Mem} (hM : MemOk M) (gab : M.get ab = some ⟨[sli Eo 0 ad.out.length co, sli Ei 0 ad.inn.length ci, .slice at_ ad.to.length ct, .slice as_ ad.set.length cs_], 48, 4, 0, true⟩) (hout : pRowss ad.out (sli Eo 0 ad.out.length co) M) (hinn : pRowss ad.inn (sli Ei 0 ad.inn.length ci) M) (hto : pInts ad.to (.slice at_ ad.to.length ct) M) (hset : pInts ad.set (.slice as_ ad.set.length cs_) M) (hok : okA ad) (hadj : pAdj 48 ad (pt ab 0) M) : ∃ v_ M', Ev Try.prog [] 18 [(pt ab 0), (i64 v)] M v_ M' ∧ Ext M M' ∧ MemOk M' ∧ v_ = i64 (modesI ad v) := by
  obtain ⟨R1, eR2⟩ : ∃ m : Mem, m = Mem.mk M.blks M.next M.hide [] := ⟨_, rfl⟩
  have X3 : Ext (Mem.mk M.blks M.next M.hide []) R1 := by rw [eR2]; exact Ext.aside ((Ext.refl M))
  have lg4 : R1.log = [] := by rw [eR2]
  have nxR1 : R1.next = M.next := by rw [eR2]
  have hM5 : MemOk R1 := by rw [eR2]; exact MemOk.log hM
  have ltabM : ab < M.next := by have h := Mem.lt_of_get gab; exact h
  have g6 : R1.get ab = some ⟨[(sli Eo 0 ad.out.length co), (sli Ei 0 ad.inn.length ci), (.slice at_ ad.to.length ct), (.slice as_ ad.set.length cs_)], 48, 4, 0, true⟩ := by rw [eR2]; exact gab
  have ltabM12 := Mem.lt_of_get g6
  obtain ⟨w10, N11, M12, p13, l14, e15, E16, hM17, F18⟩ := call_fc (x := (ad.out, v)) hM5 con31 (⟨_, _, rfl, AP.Ext (R := pRowss) (AP.log (R := pRowss) hout) X3, rfl⟩)
  have nx19 := E16.next
  have g20 := E16.old g6
  have G9 : pInts (rowV ad.out v) w10 M12 := F18
  obtain ⟨a7, c8, ew10⟩ := GRowsAt.form G9
  subst ew10
  have lg21 : M12.log = [] := by rw [← e15]; exact lg4
  have X22 := X3.trans E16
  have ltabM25 := Mem.lt_of_get g20
  obtain ⟨w23, N24, M25, p26, l27, e28, E29, hM30, F31⟩ := call_fc (x := (ad, rowV ad.out v)) hM17 con33 (⟨⟨_, _, rfl, (AP.Ext (R := pAdj 48) (AP.log (R := pAdj 48) hadj) X22), G9⟩, hok, rowV_ok (p := fun r => ∀ j ∈ r, 0 ≤ j ∧ j < (ad.set.length : Int)) (fun r hr => (hok.1 r hr).2) (fun _ h => by cases h) v⟩)
  have nx32 := E29.next
  have F33 := AP.Ext (R := pInts) G9 E29
  have g34 := E29.old g20
  have ew23 : w23 = (i64 (unionI ad.set (rowV ad.out v))) := F31
  subst ew23
  have lg35 : M25.log = [] := by rw [← e28]; exact lg21
  have X36 := X22.trans E29
  have ltabM42 := Mem.lt_of_get g34
  obtain ⟨w40, N41, M42, p43, l44, e45, E46, hM47, F48⟩ := call_fc (x := (ad.inn, v)) hM30 con31 (⟨_, _, rfl, AP.Ext (R := pRowss) (AP.log (R := pRowss) hinn) X36, rfl⟩)
  have nx49 := E46.next
  have F50 := AP.Ext (R := pInts) F33 E46
  have g51 := E46.old g34
  have G39 : pInts (rowV ad.inn v) w40 M42 := F48
  obtain ⟨a37, c38, ew40⟩ := GRowsAt.form G39
  subst ew40
  have lg52 : M42.log = [] := by rw [← e45]; exact lg35
  have X53 := X36.trans E46
  have ltabM56 := Mem.lt_of_get g51
  obtain ⟨w54, N55, M56, p57, l58, e59, E60, hM61, F62⟩ := call_fc (x := (ad, rowV ad.inn v)) hM47 con33 (⟨⟨_, _, rfl, (AP.Ext (R := pAdj 48) (AP.log (R := pAdj 48) hadj) X53), G39⟩, hok, rowV_ok (p := fun r => ∀ j ∈ r, 0 ≤ j ∧ j < (ad.set.length : Int)) (fun r hr => (hok.2.1 r hr).2) (fun _ h => by cases h) v⟩)
  have nx63 := E60.next
  have F64 := AP.Ext (R := pInts) F50 E60
  have F65 := AP.Ext (R := pInts) G39 E60
  have g66 := E60.old g51
  have ew54 : w54 = (i64 (unionI ad.set (rowV ad.inn v))) := F62
  subst ew54
  have lg67 : M56.log = [] := by rw [← e59]; exact lg52
  have X68 := X53.trans E60
  obtain ⟨M69, ef70⟩ : ∃ m : Mem, m = (Mem.mk M56.blks M56.next M56.hide (M56.log ++ M.log)) := ⟨_, rfl⟩
  have X71 : Ext M M69 := by rw [ef70]; exact Ext.join ((Ext.refl M)) (X68)
  have hM72 : MemOk M69 := by rw [ef70]; exact hM61
  have g73 : M69.get ab = some ⟨[(sli Eo 0 ad.out.length co), (sli Ei 0 ad.inn.length ci), (.slice at_ ad.to.length ct), (.slice as_ ad.set.length cs_)], 48, 4, 0, true⟩ := by rw [ef70]; exact g66
  have F74 := AP.ext (R := pInts) (M' := M69) (fun id b h => by rw [ef70]; exact h) F64
  have F75 := AP.ext (R := pInts) (M' := M69) (fun id b h => by rw [ef70]; exact h) F65
  have hraw := w29_raw ab Eo Ei co ci at_ ct as_ cs_ ad v M  a7 c8 M12 M25 a37 c38 M42 M56
  have rw0 : Mem.mk M.blks M.next M.hide [] = R1 := eR2.symm
  have rw1 : Mem.mk M12.blks M12.next M.hide M12.log = M12 := by rw [(show M.hide = M12.hide from (((Ext.refl M)).hide.trans (X22).hide.symm))]
  have rw2 : Mem.mk M25.blks M25.next M.hide M25.log = M25 := by rw [(show M.hide = M25.hide from (((Ext.refl M)).hide.trans (X36).hide.symm))]
  have rw3 : Mem.mk M25.blks M25.next (hides 3584 [⟨7, 1, M12.next, M25.next⟩, ⟨6, 1, M.next, M12.next⟩, ⟨4, 1, M.next, M.next⟩] ++ M.hide) M25.log = hidx (hides 3584 [⟨7, 1, M12.next, M25.next⟩, ⟨6, 1, M.next, M12.next⟩, ⟨4, 1, M.next, M.next⟩]) M25 := by rw [(show M.hide = M25.hide from (((Ext.refl M)).hide.trans (X36).hide.symm))]; rfl
  have rw4 : Mem.mk M42.blks M42.next M.hide M42.log = M42 := by rw [(show M.hide = M42.hide from (((Ext.refl M)).hide.trans (X53).hide.symm))]
  have rw5 : Mem.mk M56.blks M56.next M.hide M56.log = M56 := by rw [(show M.hide = M56.hide from (((Ext.refl M)).hide.trans (X68).hide.symm))]
  have rw6 : (Mem.mk M56.blks M56.next M.hide (M56.log ++ M.log)) = (Mem.mk M56.blks M56.next M56.hide (M56.log ++ M.log)) := by rw [(show M.hide = M56.hide from (((Ext.refl M)).hide.trans (X68).hide.symm))]
  have rw7 : (Mem.mk M56.blks M56.next M56.hide (M56.log ++ M.log)) = M69 := ef70.symm
  try rw [rw0] at hraw
  try rw [rw1] at hraw
  try rw [rw2] at hraw
  try rw [rw3] at hraw
  try rw [rw4] at hraw
  try rw [rw5] at hraw
  try rw [rw6] at hraw
  try rw [rw7] at hraw
  exact ⟨(i64 (orI (unionI ad.set (rowV ad.out v)) (unionI ad.set (rowV ad.inn v)))), M69, Ev.told_tmp noNumP mixedP Try.func18 q18_ok (by kernel_rfl) rK18 (fun B => specsB_ok (k := []) (hS29_43_44 B) (fun p hp => by cases hp)) (fun _ _ => rfl) hraw (hk (lC dC46 g6 rfl) (hk (q_call rfl p13 l14 e15) (hk (q_call rfl p26 l27 e28) (hk (lC dC46 (hidx_get.2 ⟨hides_low (by simp; omega), g34⟩) rfl) (hk (q_lt ltabM) (hk (q_call rfl p43 l44 e45) (hk (q_call rfl p57 l58 e59) (hk (q_apart (by rw [lg67]; simp <;> omega)) hn)))))))), X71, hM72, rfl⟩
abbrev Q18 := FC (asP (as2 (pAdj 48) pI) fun x => okA x.1) (plain pI) (fun x => modesI x.1 x.2)
theorem con18 {x : AdjM × Int} {lv : List Value} {M : Mem} (hM : MemOk M) (h : (asP (as2 (pAdj 48) pI) fun x : AdjM × Int => okA x.1) x lv M) : ∃ v M', Con Try.prog [] 18 Q18 lv M v M' := by
  refine FC.con h ?_
  obtain ⟨⟨g0, g1, rfl, k0, k1⟩, hok⟩ := h
  obtain ⟨ad, v⟩ := x
  obtain rfl := k1
  have hadj := k0
  obtain ⟨ab, o, i_, t, s, rfl, gab, hout, hinn, hto, hset⟩ := k0
  obtain ⟨Eo, co, rfl⟩ := rowss_form hout
  obtain ⟨Ei, ci, rfl⟩ := rowss_form hinn
  obtain ⟨at_, ct, rfl⟩ := GRowsAt.form hto
  obtain ⟨as_, cs_, rfl⟩ := GRowsAt.form hset
  obtain ⟨v', M', h1, h2, _, h3⟩ := w29 ab Eo Ei co ci at_ ct as_ cs_ ad v hM gab hout hinn hto hset hok hadj
  exact ⟨v', M', h1, h2, h3⟩
end Go.Proofs.Ytipnhelkganmdaa
