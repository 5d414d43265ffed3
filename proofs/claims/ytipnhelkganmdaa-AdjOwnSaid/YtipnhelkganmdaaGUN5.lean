/-
  Package adj: each of its laws for every argument; no conditions. The last text states which.
-/
import Derived.Test.YtipnhelkganmdaaGUN1
open Go Go.Am Go.Proofs
namespace Go.Proofs.Ytipnhelkganmdaa
set_option maxRecDepth 100000
set_option linter.unusedVariables false
set_option linter.unusedSimpArgs false
theorem ownI_ints {l : List Int} {nx : Nat} {S : Value} {M : Mem} (h : pOwnI l nx S M) (hl : l.length ≤ 400) : pInts l S M := by
  rcases h with ⟨rfl, rfl⟩ | ⟨b, rfl, _, h3⟩
  · exact GRowsAt.nil none
  · exact GRowsAt.of_blk' h3 rfl rfl (fun _ _ => rfl) (by omega)
theorem rowLen {n : Nat} {l : List E4} (hck : chkN ((n : Nat) : Int) l = true) (v : Int) : (rowV (adjM n l).out v).length ≤ 400 :=
  rowV_ok (p := fun r => r.length ≤ 400) (fun r hr => ((okA_adjM hck).1 r hr).1) (by decide) v
theorem hS6_13_14_18_20_21_22_23 (B : Bd) : ∀ p ∈ ([(13, pick (Con Try.prog [] 13 Q13o)), (14, pick (Con Try.prog [] 14 Q14)), (18, pick (Con Try.prog [] 18 Q18)), (20, pick (Con Try.prog [] 20 Q20)), (21, pick (Con Try.prog [] 21 Q21)), (22, pick (Con Try.prog [] 22 Q22)), (23, pick (Con Try.prog [] 23 Q23))] : List (FuncId × (List Value → Mem → Option (Value × Mem)))), SpecOk Try.prog [] B p.1 p.2 := (fun p hp => by simp only [List.mem_cons, List.not_mem_nil, or_false] at hp; rcases hp with rfl | rfl | rfl | rfl | rfl | rfl | rfl <;> first | exact Con.ok _ | exact TC.ok _)
theorem r62n_raw (mp ab ob xb n i : Nat) (by_ : Int) (ES : Value) (l : List E4) (M : Mem) (M3 : Mem) (w1 : Value) (M13 : Mem) (a19 : Option Addr) (c20 : Nat) (M24 : Mem) (a34 : Option Addr) (c35 : Nat) (M39 : Mem) (M52 : Mem) (a64 : Option Addr) (c65 : Nat) (M69 : Mem) (a81 : Option Addr) (c82 : Nat) (M86 : Mem) (M101 : Mem) (M117 : Mem) (M133 : Mem) : oR Try.prog [4] 140 Try.f6 (q6.loopAt 2) [(2, (i64 by_)), (8, (pt mp 0)), (9, (pt ab 0)), (10, (pt ob 0)), (12, (pt xb 0)), (13, (i64 (((i : Nat) : Int))))] M [ttL 5 (i64 (((n : Nat) : Int))), ttT 8, ttV 14 w1 M3, .blk 19 [2, 8, 9, 10, 12, 13, 14, 15] .normal (fr [(2, (i64 by_)), (8, (pt mp 0)), (9, (pt ab 0)), (10, (pt ob 0)), (12, (pt xb 0)), (13, (i64 (((i : Nat) : Int))))]) M13, ttV 25 (.slice a19 (refRow .fr l ((i : Nat) : Int) l.length).length c20) M24, ttV 31 (.slice a34 (refRow .fr l ((i : Nat) : Int) l.length).length c35) M39, ttV 33 (.bool true) M52, ttV 43 (.slice a64 (refRow .to l ((i : Nat) : Int) l.length).length c65) M69, ttV 49 (.slice a81 (refRow .to l ((i : Nat) : Int) l.length).length c82) M86, ttV 51 (.bool true) M101, ttV 63 (i64 (modesI (adjM n l) ((i : Nat) : Int))) M117, ttV 69 (i64 (modesI (adjM n l) ((i : Nat) : Int))) M133, ttF 74] [2, 8, 9, 10, 12, 13] = some (.normal, [some (i64 by_), some (pt mp 0), some (pt ab 0), some (pt ob 0), some (pt xb 0), some (i64 (IntKind.wrap .i64 ((((i : Nat) : Int)) + (1 : Int))))], M133, [qL 3 mp 0 M (i64 (((n : Nat) : Int))), qT (decide ((((i : Nat) : Int)) < (((n : Nat) : Int)))), qC 13 [(pt ab 0), (i64 (((i : Nat) : Int)))] M w1 M3, .blk 4 (.loop (q6.loopAt 4)) Try.f6.ntmps [2, 8, 9, 10, 12, 13, 14, 15] [some (i64 by_), some (pt mp 0), some (pt ab 0), some (pt ob 0), some (pt xb 0), some (i64 (((i : Nat) : Int))), some w1, some (i64 0)] M3 .normal (fr [(2, (i64 by_)), (8, (pt mp 0)), (9, (pt ab 0)), (10, (pt ob 0)), (12, (pt xb 0)), (13, (i64 (((i : Nat) : Int))))]) M13, qC 13 [(pt ab 0), (i64 (((i : Nat) : Int)))] M13 (.slice a19 (refRow .fr l ((i : Nat) : Int) l.length).length c20) M24, qC 21 [(pt xb 0), (i64 (((i : Nat) : Int)))] M24 (.slice a34 (refRow .fr l ((i : Nat) : Int) l.length).length c35) M39, qC 20 [(.slice a19 (refRow .fr l ((i : Nat) : Int) l.length).length c20), (.slice a34 (refRow .fr l ((i : Nat) : Int) l.length).length c35)] M39 (.bool true) M52, qC 14 [(pt ab 0), (i64 (((i : Nat) : Int)))] M52 (.slice a64 (refRow .to l ((i : Nat) : Int) l.length).length c65) M69, qC 22 [(pt xb 0), (i64 (((i : Nat) : Int)))] M69 (.slice a81 (refRow .to l ((i : Nat) : Int) l.length).length c82) M86, qC 20 [(.slice a64 (refRow .to l ((i : Nat) : Int) l.length).length c65), (.slice a81 (refRow .to l ((i : Nat) : Int) l.length).length c82)] M86 (.bool true) M101, qC 18 [(pt ab 0), (i64 (((i : Nat) : Int)))] M101 (i64 (modesI (adjM n l) ((i : Nat) : Int))) M117, qC 23 [(pt xb 0), (i64 (((i : Nat) : Int)))] M117 (i64 (modesI (adjM n l) ((i : Nat) : Int))) M133, qF (!((modesI (adjM n l) ((i : Nat) : Int)) == (modesI (adjM n l) ((i : Nat) : Int))))]) := by kernel_rfl
theorem r62n (mp ab ob xb n i : Nat) (by_ : Int) (ES : Value) (l : List E4) {M M0 : Mem} (hM : MemOk M) (X0 : Ext M0 M) (gp : M.get mp = some ⟨[i64 ((n : Nat) : Int), ES], 26, 2, 0, true⟩) (gp0 : M0.get mp = some ⟨[i64 ((n : Nat) : Int), ES], 26, 2, 0, true⟩) (hA_ : pAdj 48 (adjM n l) (pt ab 0) M0) (hX_ : pRefA 59 (n, l) (pt xb 0) M0) (hck : chkN ((n : Nat) : Int) l = true) (hl400 : l.length ≤ 400) (hokm : ∀ e ∈ l, okM e) (cc0 : (decide ((((i : Nat) : Int)) < (((n : Nat) : Int)))) = true) : ∃ T1 M', Rd Try.prog [] (q6.loopAt 2) Try.f6.ntmps (fr [(2, (i64 by_)), (8, (pt mp 0)), (9, (pt ab 0)), (10, (pt ob 0)), (12, (pt xb 0)), (13, (i64 (((i : Nat) : Int))))]) M .normal T1 M' ∧ [2, 8, 9, 10, 12, 13].map T1.get = [some (i64 by_), some (pt mp 0), some (pt ab 0), some (pt ob 0), some (pt xb 0), some (i64 (IntKind.wrap .i64 ((((i : Nat) : Int)) + (1 : Int))))] ∧ Ext M0 M' ∧ MemOk M' := by
  obtain ⟨w1, N2, M3, p4, l5, e6, E7, hM8, F9⟩ := call_fc (x := ((adjM n l), ((i : Nat) : Int))) hM con13o (⟨⟨_, _, rfl, AP.Ext (R := (pAdj 48)) hA_ X0, rfl⟩, okA_adjM hck⟩)
  have nx10 := E7.next
  have g11 := E7.old gp
  have X12 := X0.trans E7
  obtain ⟨M13, hL14, X15, hM16⟩ := loop64o hM8 X12 F9 (X0).next (Nat.le_trans (rowLen hck _) (by decide))
  have g18 := X15.old gp0
  obtain ⟨w22, N23, M24, p25, l26, e27, E28, hM29, F30⟩ := call_fc (x := ((adjM n l), ((i : Nat) : Int))) hM16 con13o (⟨⟨_, _, rfl, AP.Ext (R := (pAdj 48)) hA_ X15, rfl⟩, okA_adjM hck⟩)
  have nx31 := E28.next
  have g32 := E28.old g18
  have G21 : pInts (refRow .fr l ((i : Nat) : Int) l.length) w22 M24 := by rw [← out_eq hck ⟨by omega, by simp at cc0; omega⟩]; exact ownI_ints F30 (rowLen hck _)
  obtain ⟨a19, c20, ew22⟩ := GRowsAt.form G21
  subst ew22
  have X33 := X15.trans E28
  obtain ⟨w37, N38, M39, p40, l41, e42, E43, hM44, F45⟩ := call_fc (x := ((n, l), ((i : Nat) : Int))) hM29 con21 (⟨⟨_, _, rfl, AP.Ext (R := (pRefA 59)) hX_ X33, rfl⟩, hl400⟩)
  have nx46 := E43.next
  have F47 := AP.Ext (R := pInts) G21 E43
  have g48 := E43.old g32
  have G36 : pInts (refRow .fr l ((i : Nat) : Int) l.length) w37 M39 := by exact newR.out (R := pInts) F45
  obtain ⟨a34, c35, ew37⟩ := GRowsAt.form G36
  subst ew37
  have X49 := X33.trans E43
  obtain ⟨w50, N51, M52, p53, l54, e55, E56, hM57, F58⟩ := call_fc (x := ((refRow .fr l ((i : Nat) : Int) l.length), (refRow .fr l ((i : Nat) : Int) l.length))) hM44 con20 (⟨_, _, rfl, F47, G36⟩)
  have nx59 := E56.next
  have F60 := AP.Ext (R := pInts) F47 E56
  have F61 := AP.Ext (R := pInts) G36 E56
  have g62 := E56.old g48
  have ew50 : w50 = .bool true := (show w50 = .bool (decide ((refRow .fr l ((i : Nat) : Int) l.length) = (refRow .fr l ((i : Nat) : Int) l.length))) from F58).trans (congrArg Value.bool (decide_eq_true rfl))
  subst ew50
  have X63 := X49.trans E56
  obtain ⟨w67, N68, M69, p70, l71, e72, E73, hM74, F75⟩ := call_fc (x := ((adjM n l), ((i : Nat) : Int))) hM57 con14 (⟨⟨_, _, rfl, AP.Ext (R := (pAdj 48)) hA_ X63, rfl⟩, okA_adjM hck⟩)
  have nx76 := E73.next
  have F77 := AP.Ext (R := pInts) F60 E73
  have F78 := AP.Ext (R := pInts) F61 E73
  have g79 := E73.old g62
  have G66 : pInts (refRow .to l ((i : Nat) : Int) l.length) w67 M69 := by rw [← in_eq hck ⟨by omega, by simp at cc0; omega⟩]; exact newR.out (R := pInts) F75
  obtain ⟨a64, c65, ew67⟩ := GRowsAt.form G66
  subst ew67
  have X80 := X63.trans E73
  obtain ⟨w84, N85, M86, p87, l88, e89, E90, hM91, F92⟩ := call_fc (x := ((n, l), ((i : Nat) : Int))) hM74 con22 (⟨⟨_, _, rfl, AP.Ext (R := (pRefA 59)) hX_ X80, rfl⟩, hl400⟩)
  have nx93 := E90.next
  have F94 := AP.Ext (R := pInts) F77 E90
  have F95 := AP.Ext (R := pInts) F78 E90
  have F96 := AP.Ext (R := pInts) G66 E90
  have g97 := E90.old g79
  have G83 : pInts (refRow .to l ((i : Nat) : Int) l.length) w84 M86 := by exact newR.out (R := pInts) F92
  obtain ⟨a81, c82, ew84⟩ := GRowsAt.form G83
  subst ew84
  have X98 := X80.trans E90
  obtain ⟨w99, N100, M101, p102, l103, e104, E105, hM106, F107⟩ := call_fc (x := ((refRow .to l ((i : Nat) : Int) l.length), (refRow .to l ((i : Nat) : Int) l.length))) hM91 con20 (⟨_, _, rfl, F96, G83⟩)
  have nx108 := E105.next
  have F109 := AP.Ext (R := pInts) F94 E105
  have F110 := AP.Ext (R := pInts) F95 E105
  have F111 := AP.Ext (R := pInts) F96 E105
  have F112 := AP.Ext (R := pInts) G83 E105
  have g113 := E105.old g97
  have ew99 : w99 = .bool true := (show w99 = .bool (decide ((refRow .to l ((i : Nat) : Int) l.length) = (refRow .to l ((i : Nat) : Int) l.length))) from F107).trans (congrArg Value.bool (decide_eq_true rfl))
  subst ew99
  have X114 := X98.trans E105
  obtain ⟨w115, N116, M117, p118, l119, e120, E121, hM122, F123⟩ := call_fc (x := ((adjM n l), ((i : Nat) : Int))) hM106 con18 (⟨⟨_, _, rfl, AP.Ext (R := (pAdj 48)) hA_ X114, rfl⟩, okA_adjM hck⟩)
  have nx124 := E121.next
  have F125 := AP.Ext (R := pInts) F109 E121
  have F126 := AP.Ext (R := pInts) F110 E121
  have F127 := AP.Ext (R := pInts) F111 E121
  have F128 := AP.Ext (R := pInts) F112 E121
  have g129 := E121.old g113
  have ew115 : w115 = (i64 (modesI (adjM n l) ((i : Nat) : Int))) := F123
  subst ew115
  have X130 := X114.trans E121
  obtain ⟨w131, N132, M133, p134, l135, e136, E137, hM138, F139⟩ := call_fc (x := ((n, l), ((i : Nat) : Int))) hM122 con23 (⟨⟨_, _, rfl, AP.Ext (R := (pRefA 59)) hX_ X130, rfl⟩, hokm⟩)
  have nx140 := E137.next
  have F141 := AP.Ext (R := pInts) F125 E137
  have F142 := AP.Ext (R := pInts) F126 E137
  have F143 := AP.Ext (R := pInts) F127 E137
  have F144 := AP.Ext (R := pInts) F128 E137
  have g145 := E137.old g129
  have ew131 : w131 = (i64 (modesI (adjM n l) ((i : Nat) : Int))) := (show w131 = i64 (refModes l ((i : Nat) : Int) l.length) from F139).trans (by rw [← modes_eq hck ⟨by omega, by simp at cc0; omega⟩])
  subst ew131
  have X146 := X130.trans E137
  have hraw := r62n_raw mp ab ob xb n i by_ ES l M  M3 w1 M13 a19 c20 M24 a34 c35 M39 M52 a64 c65 M69 a81 c82 M86 M101 M117 M133
  obtain ⟨T1, h1, h2⟩ := Rd.told noNumP mixedP (fun B => specsB_ok (hS6_13_14_18_20_21_22_23 B) (k := [(4, bone (.loop (q6.loopAt 4)) Try.f6.ntmps [2, 8, 9, 10, 12, 13, 14, 15] [some (i64 by_), some (pt mp 0), some (pt ab 0), some (pt ob 0), some (pt xb 0), some (i64 (((i : Nat) : Int))), some w1, some (i64 0)] M3 .normal (fr [(2, (i64 by_)), (8, (pt mp 0)), (9, (pt ab 0)), (10, (pt ob 0)), (12, (pt xb 0)), (13, (i64 (((i : Nat) : Int))))]) M13)]) (fun p hp => by simp only [List.mem_cons, List.not_mem_nil, or_false] at hp; rcases hp with rfl <;> first | exact BlkOk.loop noNumP mixedP hL14)) (fun _ h => blksF_one h) hraw (hk (lC dC3 gp rfl) (hk (bT cc0) (hk (q_call rfl p4 l5 e6) (hk (q_blk rfl) (hk (q_call rfl p25 l26 e27) (hk (q_call rfl p40 l41 e42) (hk (q_call rfl p53 l54 e55) (hk (q_call rfl p70 l71 e72) (hk (q_call rfl p87 l88 e89) (hk (q_call rfl p102 l103 e104) (hk (q_call rfl p118 l119 e120) (hk (q_call rfl p134 l135 e136) (hk (bF (by first | simp_all | (simp; omega))) hn)))))))))))))
  exact ⟨T1, M133, h1, h2, X146, hM138⟩
theorem r62x_raw (mp ab ob xb n i : Nat) (by_ : Int) (ES : Value) (l : List E4) (M : Mem)  : oR Try.prog [] 60 Try.f6 (q6.loopAt 2) [(2, (i64 by_)), (8, (pt mp 0)), (9, (pt ab 0)), (10, (pt ob 0)), (12, (pt xb 0)), (13, (i64 (((i : Nat) : Int))))] M [ttL 5 (i64 (((n : Nat) : Int))), ttF 8] [10] = some ((.exit 2), [some (pt ob 0)], M, [qL 3 mp 0 M (i64 (((n : Nat) : Int))), qF (decide ((((i : Nat) : Int)) < (((n : Nat) : Int))))]) := by kernel_rfl
theorem r62x (mp ab ob xb n i : Nat) (by_ : Int) (ES : Value) (l : List E4) {M : Mem} (gp : M.get mp = some ⟨[i64 ((n : Nat) : Int), ES], 26, 2, 0, true⟩) (cc0 : (decide ((((i : Nat) : Int)) < (((n : Nat) : Int)))) = false) : ∃ T1, Rd Try.prog [] (q6.loopAt 2) Try.f6.ntmps (fr [(2, (i64 by_)), (8, (pt mp 0)), (9, (pt ab 0)), (10, (pt ob 0)), (12, (pt xb 0)), (13, (i64 (((i : Nat) : Int))))]) M (.exit 2) T1 M ∧ [10].map T1.get = [some (pt ob 0)] := by
  have hraw := r62x_raw mp ab ob xb n i by_ ES l M  
  obtain ⟨T1, h1, h2⟩ := Rd.told noNumP mixedP (specs_none Try.prog) (fun _ _ => rfl) hraw (hk (lC dC3 gp rfl) (hk (bF cc0) hn))
  exact ⟨T1, h1, h2⟩
end Go.Proofs.Ytipnhelkganmdaa

open Go Go.Am Go.Proofs
namespace Go.Proofs.Ytipnhelkganmdaa
set_option maxRecDepth 100000
set_option linter.unusedVariables false
set_option linter.unusedSimpArgs false
theorem chk3 : chkN ((3 : Nat) : Int) [] = true := by decide
theorem rowV_none {n : Nat} (h : chkN ((n : Nat) : Int) [] = true) {v : Int} (hv : 0 ≤ v ∧ v < (n : Int)) : rowV (adjM n []).out v = [] := by
  rw [out_eq h hv]; rfl
theorem reach_none {n : Nat} (h : chkN ((n : Nat) : Int) [] = true) {s v : Int} (hv : 0 ≤ v ∧ v < (n : Int)) : reachL (adjM n []) s v = [v] := by
  have h0 : ∀ u, RP (adjM n []) s v u ↔ u = v := fun u => by
    constructor
    · intro hh
      cases hh with
      | refl => rfl
      | step e _ =>
        obtain ⟨j, h1, _, _⟩ := e
        exfalso
        rw [rowV_none h hv] at h1
        cases h1
    · rintro rfl; exact .refl _
  have hl : (adjM n []).out.length = n := out_len n []
  unfold reachL
  have := filt_one (adjM n []).out.length v.toNat
  rw [if_pos (by omega), show ((v.toNat : Nat) : Int) = v by omega] at this
  rw [← this]
  apply filterMap_same
  intro u _
  by_cases hu : u = v.toNat
  · subst hu
    rw [if_pos rfl, if_pos ⟨(h0 _).2 (by omega), by omega, by omega⟩]
  · rw [if_neg hu, if_neg (fun hh => hu (by have := (h0 _).1 hh.1; omega))]
theorem okM_of {n : Int} {l : List E4} (h : chkN n l = true) : ∀ e ∈ l, okM e := fun e he => ((chkN_spec h).2.2.2 e he).2.2.2.2
theorem loop62o {mp ab ob xb n : Nat} {by_ : Int} {ES : Value} {l : List E4} {M0 : Mem} (hM : MemOk M0) (gp0 : M0.get mp = some ⟨[i64 ((n : Nat) : Int), ES], 26, 2, 0, true⟩) (hA_ : pAdj 48 (adjM n l) (pt ab 0) M0) (hX_ : pRefA 59 (n, l) (pt xb 0) M0) (hck : chkN ((n : Nat) : Int) l = true) :
    ∃ M', LoopR Try.prog [] (q6.loopAt 2) Try.f6.ntmps (fr [(2, i64 by_), (8, pt mp 0), (9, pt ab 0), (10, pt ob 0), (12, pt xb 0), (13, i64 ((0 : Nat) : Int))]) M0 (.exit 2) (fr [(10, pt ob 0)]) M' ∧ Ext M0 M' ∧ MemOk M' := by
  obtain ⟨_, hn60, hl400, _⟩ := chkN_spec hck
  obtain ⟨_, M', h1, h2, h3⟩ := LoopR.for (P := Try.prog) (GL := []) (b := q6.loopAt 2) (nt := Try.f6.ntmps) (id := 2) (σ := Unit) (n := n) (Inv := fun i _ M1 => Ext M0 M1 ∧ MemOk M1)
    (F := fun i _ => [(2, i64 by_), (8, pt mp 0), (9, pt ab 0), (10, pt ob 0), (12, pt xb 0), (13, i64 ((i : Nat) : Int))]) (O := fun _ => [(10, pt ob 0)])
    (by
      rintro i _ M1 hi ⟨X1, hM1⟩
      obtain ⟨T1, M2, h1, h2, h3, h4⟩ := r62n mp ab ob xb n i by_ ES l hM1 X1 (X1.old gp0) gp0 hA_ hX_ hck hl400 (okM_of hck) (decide_eq_true (by omega))
      rw [wrap_succ (by omega)] at h2
      exact ⟨(), T1, M2, h1, h2, h3, h4⟩)
    (by
      rintro _ M1 ⟨X1, hM1⟩
      exact r62x mp ab ob xb n n by_ ES l (X1.old gp0) (decide_eq_false (by omega)))
    n 0 (by omega) (s := ()) (M := M0) ⟨Ext.refl M0, hM⟩
  exact ⟨M', h1, h2, h3⟩
theorem loop60k {q mp ab ob nx nx2 n : Nat} {by_ : Int} {l : List E4} {S : Value} {M0 M : Mem} (hM : MemOk M) (X : Ext M0 M) (h : OwnE nx l S M) (hn : M0.next ≤ nx) (hl : l.length ≤ 400) (gq : M.get q = some ⟨[i64 ((n : Nat) : Int), S], 26, 2, 0, true⟩) (h2 : ∀ b o m c, S = sli b o m c → b < nx2) (hq : nx2 ≤ q) :
    ∃ M', LoopR Try.prog [] (q6.loopAt 0) Try.f6.ntmps (fr [(2, i64 by_), (7, pt q 0), (8, pt mp 0), (9, pt ab 0), (10, pt ob 0), (11, i64 ((0 : Nat) : Int))]) M (.exit 0) (fr [(2, i64 by_), (7, pt q 0), (8, pt mp 0), (9, pt ab 0), (10, pt ob 0)]) M' ∧ Ext M0 M' ∧ MemOk M' ∧ ∀ id k, M.get id = some k → nx2 ≤ id → M'.get id = some k := by
  obtain ⟨M', k1, k2, k3, k4⟩ := loop60o (mp := mp) (ab := ab) (ob := ob) (by_ := by_) hM X h hn hl gq (fun o m c e => by have := h2 _ _ _ _ e; omega)
  exact ⟨M', k1, k2, k3, fun id k g hid => k4 id k g fun o m c e => by have := h2 _ _ _ _ e; omega⟩
theorem ownE_lt {nx : Nat} {l : List E4} {S : Value} {M : Mem} (h : OwnE nx l S M) : ∀ b o m c, S = sli b o m c → b < M.next := by
  intro b o m c e
  rcases h with ⟨rfl, _⟩ | ⟨b', rfl, _, _, h4⟩
  · cases e
  · cases e; exact Mem.lt_of_get h4
theorem ownE_edges {nx : Nat} {l : List E4} {S : Value} {M : Mem} (h : OwnE nx l S M) (hl : l.length ≤ 400) : pEdges l S M := by
  rcases h with ⟨rfl, rfl⟩ | ⟨b, rfl, _, _, h4⟩
  · exact GRowsAt.nil none
  · exact GRowsAt.of_blk' h4 rfl rfl (fun _ _ => rfl) (by omega)
theorem ownE_new {nx : Nat} {l : List E4} {S : Value} {M : Mem} (h : OwnE nx l S M) (hl : l.length ≤ 400) : newR pEdges l nx S M := by
  rcases h with ⟨rfl, rfl⟩ | ⟨b, rfl, _, h3, h4⟩
  · exact GRowsAt.nil none
  · exact GRowsAt.of_blk' (hid_of h3 h4) rfl rfl (fun _ _ => rfl) (by omega)
theorem OwnE.ext {nx : Nat} {l : List E4} {S : Value} {M M' : Mem} (h : OwnE nx l S M) (hE : ∀ id b, M.get id = some b → M'.get id = some b) : OwnE nx l S M' := h.imp id fun ⟨b, q1, q2, q3, q4⟩ => ⟨b, q1, q2, q3, hE _ _ q4⟩
theorem OwnE.cell {nx : Nat} {l : List E4} {S : Value} {M : Mem} (h : OwnE nx l S M) : isCell S = true := by
  rcases h with ⟨rfl, _⟩ | ⟨b, rfl, _⟩ <;> rfl
end Go.Proofs.Ytipnhelkganmdaa
