/-
  What is proved: OrderAll: the order that the program gives lists each of its packages once, for every argument; no conditions.
-/
import Derived.Test.YtfeabmmgmbddnaaOQ5
import Derived.Test.YtfeabmmgmbddnaaOPL
import Derived.Test.YtfeabmmgmbddnaaGAmBk
open Go Go.Am Go.Proofs
namespace Go.Proofs.Ytfeabmmgmbddnaa
set_option maxRecDepth 100000
set_option linter.unusedVariables false
set_option linter.unusedSimpArgs false
theorem linksL_len (a : AdjM) (n : Nat) : (linksL a n).length = n := by simp [linksL]
theorem linksR_len (l : List E4) (n : Nat) : (linksR l n).length = n := by simp [linksR]
theorem r3_raw (bb o m c bb2 o2 c2 i : Nat) (q : Bool) (M : Mem)  : oR Try.prog [] 60 Try.f3 (q3.loopAt 0) [(8, (sli bb o m c)), (9, (sli bb2 o2 m c2)), (10, (i64 (((i : Nat) : Int))))] M [ttT 8, ttT 14, ttL 16 (.bool q), ttT 22, ttL 24 (.bool q), ttF 27] [8, 9, 10] = some (.normal, [some (sli bb o m c), some (sli bb2 o2 m c2), some (i64 (IntKind.wrap .i64 ((((i : Nat) : Int)) + (1 : Int))))], M, [qT (decide ((((i : Nat) : Int)) < (((m : Nat) : Int)))), .q (.inb (((i : Nat) : Int)) m) (ansB true), qL 4 bb (o + (((i : Nat) : Int) : Int).toNat * 1) M (.bool q), .q (.inb (((i : Nat) : Int)) m) (ansB true), qL 4 bb2 (o2 + (((i : Nat) : Int) : Int).toNat * 1) M (.bool q), qF (!(q == q))]) := by kernel_rfl
theorem r3 (bb o m c bb2 o2 c2 i : Nat) (q : Bool) {M : Mem} {M0 : Mem} (X0 : Ext M0 M) (cc0 : (decide ((((i : Nat) : Int)) < (((m : Nat) : Int)))) = true) (hld0 : aload Try.prog 4 ⟨bb, o + (((i : Nat) : Int) : Int).toNat * 1, none⟩ M0 = some (.bool q)) (hld1 : aload Try.prog 4 ⟨bb2, o2 + (((i : Nat) : Int) : Int).toNat * 1, none⟩ M0 = some (.bool q)) : ∃ T1, Rd Try.prog [] (q3.loopAt 0) Try.f3.ntmps (fr [(8, (sli bb o m c)), (9, (sli bb2 o2 m c2)), (10, (i64 (((i : Nat) : Int))))]) M .normal T1 M ∧ [8, 9, 10].map T1.get = [some (sli bb o m c), some (sli bb2 o2 m c2), some (i64 (IntKind.wrap .i64 ((((i : Nat) : Int)) + (1 : Int))))] := by
  have hraw := r3_raw bb o m c bb2 o2 c2 i q M  
  obtain ⟨T1, h1, h2⟩ := Rd.told noNumP mixedP (specs_none Try.prog) (fun _ _ => rfl) hraw (hk (bT cc0) (hk (q_inb (by omega) (by simp at cc0; omega)) (hk (q_ld (aload_ext X0 hld0)) (hk (q_inb (by omega) (by simp at cc0; omega)) (hk (q_ld (aload_ext X0 hld1)) (hk (bF (by first | simp_all | (simp; omega))) hn))))))
  exact ⟨T1, h1, h2⟩
theorem r3x_raw (a : Option Addr) (m c i : Nat) (V2 : Value) (M : Mem)  : oR Try.prog [] 60 Try.f3 (q3.loopAt 0) [(8, (.slice a m c)), (9, V2), (10, (i64 (((i : Nat) : Int))))] M [ttT 5, ttF 8] [] = some ((.exit 0), [], M, [.ln a m c, qF (decide ((((i : Nat) : Int)) < (((m : Nat) : Int))))]) := by kernel_rfl
theorem r3x (a : Option Addr) (m c i : Nat) (V2 : Value) {M : Mem} (hln : a.isNone = true → m = 0 ∧ c = 0) (cc0 : (decide ((((i : Nat) : Int)) < (((m : Nat) : Int)))) = false) : ∃ T1, Rd Try.prog [] (q3.loopAt 0) Try.f3.ntmps (fr [(8, (.slice a m c)), (9, V2), (10, (i64 (((i : Nat) : Int))))]) M (.exit 0) T1 M ∧ [].map T1.get = [] := by
  have hraw := r3x_raw a m c i V2 M  
  obtain ⟨T1, h1, h2⟩ := Rd.told noNumP mixedP (specs_none Try.prog) (fun _ _ => rfl) hraw (hk (lN hln) (hk (bF cc0) hn))
  exact ⟨T1, h1, h2⟩
theorem loop3 {a a2 : Option Addr} {c c2 n : Nat} {l : List Bool} {M : Mem} (hM : MemOk M) (hs : pBools l (.slice a n c) M) (hs2 : pBools l (.slice a2 n c2) M) :
    ∃ M', LoopR Try.prog [] (q3.loopAt 0) Try.f3.ntmps (fr [(8, .slice a n c), (9, .slice a2 n c2), (10, i64 ((0 : Nat) : Int))]) M (.exit 0) (fr []) M' ∧ Ext M M' ∧ MemOk M' := by
  have hlen := hs.len
  have hnl : n = l.length := GRowsAt.len_eq hs
  subst hnl
  obtain ⟨_, M', h1, h2, h3, _⟩ := LoopR.for (P := Try.prog) (GL := []) (b := q3.loopAt 0) (nt := Try.f3.ntmps) (id := 0) (σ := Unit) (n := l.length) (Inv := fun i _ M1 => Ext M M1 ∧ MemOk M1 ∧ True)
    (F := fun i _ => [(8, .slice a l.length c), (9, .slice a2 l.length c2), (10, i64 ((i : Nat) : Int))])
    (O := fun _ => [])
    (by
      rintro i _ M1 hi ⟨X1, hM1, _⟩
      obtain ⟨bb, o, rfl, _⟩ := form_pos hs (by omega)
      obtain ⟨bb2, o2, rfl, _⟩ := form_pos hs2 (by omega)
      have ht : l[i]? = some l[i] := List.getElem?_eq_getElem hi
      obtain ⟨T1, h1, h2⟩ := r3 bb o l.length c bb2 o2 c2 i l[i] (M := M1) X1 (decide_eq_true (by omega)) (ld_one (P := Try.prog) (ty := 4) hs ht rfl dC4) (ld_one (P := Try.prog) (ty := 4) hs2 ht rfl dC4)
      rw [wrap_succ (by omega)] at h2
      exact ⟨(), T1, M1, h1, h2, X1, hM1, trivial⟩)
    (by
      rintro _ M1 ⟨X1, hM1, _⟩
      exact r3x a l.length c l.length (.slice a2 l.length c2) (M := M1) hs.ln (decide_eq_false (by omega)))
    l.length 0 (by omega) (s := ()) (M := M) ⟨Ext.refl M, hM, trivial⟩
  exact ⟨M', h1, h2, h3⟩
theorem rK3 : Try.f3.results = #[.tmp 6] := by kernel_rfl
theorem hS3_8_9_10_11_12_13_14 (B : Bd) : ∀ p ∈ ([(8, pick (Con Try.prog [] 8 Q8)), (9, pick (Con Try.prog [] 9 Q9)), (10, pick (Con Try.prog [] 10 Q10)), (11, pick (Con Try.prog [] 11 Q11)), (12, pick (Con Try.prog [] 12 Q12)), (13, pick (Con Try.prog [] 13 Q13)), (14, pick (Con Try.prog [] 14 Q14))] : List (FuncId × (List Value → Mem → Option (Value × Mem)))), SpecOk Try.prog [] B p.1 p.2 := (fun p hp => by simp only [List.mem_cons, List.not_mem_nil, or_false] at hp; rcases hp with rfl | rfl | rfl | rfl | rfl | rfl | rfl <;> first | exact Con.ok _)
theorem w3_raw (size md : Int) (ans : Option Addr) (cns : Nat) (ns : List Int) (M : Mem) (M3 : Mem) (a12 : Option Addr) (c13 : Nat) (M18 : Mem) (b27 : Nat) (M28 : Mem) (M37 : Mem) (a52 : Option Addr) (c53 : Nat) (M57 : Mem) (a69 : Option Addr) (c70 : Nat) (M74 : Mem) (a104 : Option Addr) (c105 : Nat) (M109 : Mem) (a123 : Option Addr) (c124 : Nat) (M128 : Mem) (M145 : Mem) (M172 : Mem) : oT Try.prog [0] 60 Try.f3 q3 [(i64 size), (.slice ans ns.length cns), (i64 md)] M [ttV 3 (.bool true) M3, ttV 14 (.agg ⟨[(i64 ((((nMk size) : Nat) : Int))), (.slice a12 (mkL size ns md).length c13)]⟩) M18, ttV 16 (pt b27 0) M28, ttS 18 M37, ttL 20 (.agg ⟨[(i64 ((((nMk size) : Nat) : Int))), (.slice a12 (mkL size ns md).length c13)]⟩), ttV 22 (.slice a52 (nMk size) c53) M57, ttL 24 (.agg ⟨[(i64 ((((nMk size) : Nat) : Int))), (.slice a12 (mkL size ns md).length c13)]⟩), ttV 26 (.slice a69 (nMk size) c70) M74, ttT 34, ttT 38, ttF 43, ttL 44 (.agg ⟨[(i64 ((((nMk size) : Nat) : Int))), (.slice a12 (mkL size ns md).length c13)]⟩), ttF 45, ttV 46 (.slice a104 (orderL (nMk size) (mkL size ns md)).length c105) M109, ttF 47, ttL 48 (.agg ⟨[(i64 ((((nMk size) : Nat) : Int))), (.slice a12 (mkL size ns md).length c13)]⟩), ttF 49, ttV 50 (.slice a123 (orderR (nMk size) (mkL size ns md)).length c124) M128, ttF 51, ttV 52 (.bool true) M145, ttF 53, ttF 56, .blk 60 [8, 9, 10] .normal (fr []) M172] 6 = some (.ret, some (.bool true), M172, [qC 8 [] M (.bool true) M3, qC 9 [(i64 size), (.slice ans ns.length cns), (i64 md)] M3 (.agg ⟨[(i64 ((((nMk size) : Nat) : Int))), (.slice a12 (mkL size ns md).length c13)]⟩) M18, .eq (aalloc Try.prog 26 M18) (1, .val (pt b27 0), M28), qS 26 b27 0 (.agg ⟨[(i64 ((((nMk size) : Nat) : Int))), (.slice a12 (mkL size ns md).length c13)]⟩) M28 M37, qL 26 b27 0 (Mem.mk M37.blks M37.next M37.hide []) (.agg ⟨[(i64 ((((nMk size) : Nat) : Int))), (.slice a12 (mkL size ns md).length c13)]⟩), qC 10 [(.agg ⟨[(i64 ((((nMk size) : Nat) : Int))), (.slice a12 (mkL size ns md).length c13)]⟩)] (Mem.mk M37.blks M37.next M37.hide []) (.slice a52 (nMk size) c53) M57, qL 26 b27 0 (Mem.mk M57.blks M57.next (hides 0 [⟨1, 1, M37.next, M57.next⟩, ⟨0, 1, M37.next, M37.next⟩] ++ M37.hide) M57.log) (.agg ⟨[(i64 ((((nMk size) : Nat) : Int))), (.slice a12 (mkL size ns md).length c13)]⟩), qT (Nat.blt b27 M37.next), qC 11 [(.agg ⟨[(i64 ((((nMk size) : Nat) : Int))), (.slice a12 (mkL size ns md).length c13)]⟩)] (Mem.mk M57.blks M57.next M37.hide M57.log) (.slice a69 (nMk size) c70) M74, qT (apartN [b27] M74.log), .ln a52 (nMk size) c53, .ln a69 (nMk size) c70, qF (!(((((nMk size) : Nat) : Int)) == ((((nMk size) : Nat) : Int)))), qL 26 b27 0 (Mem.mk M74.blks M74.next M37.hide []) (.agg ⟨[(i64 ((((nMk size) : Nat) : Int))), (.slice a12 (mkL size ns md).length c13)]⟩), qF (!(((((nMk size) : Nat) : Int)) == ((((nMk size) : Nat) : Int)))), qC 13 [(.agg ⟨[(i64 ((((nMk size) : Nat) : Int))), (.slice a12 (mkL size ns md).length c13)]⟩)] (Mem.mk M74.blks M74.next M37.hide []) (.slice a104 (orderL (nMk size) (mkL size ns md)).length c105) M109, qF (!(((((nMk size) : Nat) : Int)) == ((((nMk size) : Nat) : Int)))), qL 26 b27 0 (Mem.mk M109.blks M109.next (hides 63 [⟨7, 1, M74.next, M109.next⟩, ⟨6, 1, M74.next, M74.next⟩] ++ M37.hide) M109.log) (.agg ⟨[(i64 ((((nMk size) : Nat) : Int))), (.slice a12 (mkL size ns md).length c13)]⟩), qT (Nat.blt b27 M74.next), qF (!(((((nMk size) : Nat) : Int)) == ((((nMk size) : Nat) : Int)))), qC 14 [(.agg ⟨[(i64 ((((nMk size) : Nat) : Int))), (.slice a12 (mkL size ns md).length c13)]⟩)] (Mem.mk M109.blks M109.next M37.hide M109.log) (.slice a123 (orderR (nMk size) (mkL size ns md)).length c124) M128, qF (!(((((nMk size) : Nat) : Int)) == ((((nMk size) : Nat) : Int)))), qC 12 [(.slice a104 (orderL (nMk size) (mkL size ns md)).length c105), (.slice a123 (orderR (nMk size) (mkL size ns md)).length c124)] (Mem.mk M128.blks M128.next M37.hide M128.log) (.bool true) M145, qF (!(((((nMk size) : Nat) : Int)) == ((((nMk size) : Nat) : Int)))), qF (!(((((nMk size) : Nat) : Int)) == ((((nMk size) : Nat) : Int)))), qT (apartN [b27] M145.log), .blk 0 (.loop (q3.loopAt 0)) Try.f3.ntmps [8, 9, 10] [some (.slice a52 (nMk size) c53), some (.slice a69 (nMk size) c70), some (i64 0)] (Mem.mk M145.blks M145.next M37.hide (M145.log ++ (M74.log ++ M37.log))) .normal (fr []) M172]) := by kernel_rfl
theorem w3 (size md : Int) (ans : Option Addr) (cns : Nat) (ns : List Int) {M : Mem} (hM : MemOk M) (hns : pInts ns (.slice ans ns.length cns) M) : ∃ v_ M', Ev Try.prog [] 3 [(i64 size), (.slice ans ns.length cns), (i64 md)] M v_ M' ∧ Ext M M' ∧ MemOk M' ∧ v_ = .bool true := by
  obtain ⟨w1, N2, M3, p4, l5, e6, E7, hM8, F9⟩ := call_fc (x := ()) hM con8 (rfl)
  have nx10 := E7.next
  have ew1 : w1 = (.bool true) := F9
  subst ew1
  have X11 := (Ext.refl M).trans E7
  obtain ⟨w16, N17, M18, p19, l20, e21, E22, hM23, F24⟩ := call_fc (x := (size, ns, md)) hM8 con9 (⟨_, _, _, rfl, rfl, AP.Ext (R := pInts) hns X11, rfl⟩)
  have nx25 := E22.next
  obtain ⟨L15, ew16, G14⟩ : pNetN ((nMk size), (mkL size ns md)) w16 (hidx [(0, M3.next)] M18) := hx_of F24
  simp only at ew16 G14
  obtain ⟨a12, c13, eL15⟩ := GRowsAt.form G14
  subst eL15
  subst ew16
  have X26 := X11.trans E22
  obtain ⟨b27, M28, eb29, em30, g31, E32, hM33⟩ := new_t hM23 ⟨[(i64 0), sln], 26, 2, 0, true⟩
  have nb27 : M.next ≤ b27 := by rw [← eb29]; exact X26.next
  have F34 := hx_new (R := pEdges) G14 eb29 E32
  have nx35 := E32.next
  have X36 := X26.trans E32
  obtain ⟨M37, q38, g39, kp40, X41, hM42, nx43⟩ := store_t (o := 0) (v := (.agg ⟨[(i64 ((((nMk size) : Nat) : Int))), (.slice a12 (mkL size ns md).length c13)]⟩)) (new := [(i64 ((((nMk size) : Nat) : Int))), (.slice a12 (mkL size ns md).length c13)]) X36 nb27 hM33 dS26 g31 rfl rfl (Nat.zero_le _) (Nat.le_of_ble_eq_true rfl) rfl
  replace g39 : M37.get b27 = some ⟨[(i64 ((((nMk size) : Nat) : Int))), (.slice a12 (mkL size ns md).length c13)], 26, 2, 0, true⟩ := g39
  have F44 := hx_keep (R := pEdges) F34 (fun id h _ => kp40 id h) (by intro id hh; simp only [hidden_con] at hh; omega)
  obtain ⟨R45, eR46⟩ : ∃ m : Mem, m = Mem.mk M37.blks M37.next M37.hide [] := ⟨_, rfl⟩
  have X47 : Ext (Mem.mk M.blks M.next M.hide []) R45 := by rw [eR46]; exact Ext.aside (X41)
  have lg48 : R45.log = [] := by rw [eR46]
  have nxR45 : R45.next = M37.next := by rw [eR46]
  have hM49 : MemOk R45 := by rw [eR46]; exact MemOk.log hM42
  have ltb27M37 : b27 < M37.next := by have h := Mem.lt_of_get g39; exact h
  have g50 : R45.get b27 = some ⟨[(i64 ((((nMk size) : Nat) : Int))), (.slice a12 (mkL size ns md).length c13)], 26, 2, 0, true⟩ := by rw [eR46]; exact g39
  have F51 := hx_still (R := pEdges) (M' := R45) F44 (fun id b h => by rw [eR46]; exact h)
  have ltb27M57 := Mem.lt_of_get g50
  obtain ⟨w55, N56, M57, p58, l59, e60, E61, hM62, F63⟩ := call_fc (x := ((nMk size), (mkL size ns md))) hM49 con10 (⟨⟨_, rfl, _, rfl, hx_out (R := pEdges) F51⟩, mk_chk _ _ _⟩)
  have nx64 := E61.next
  have F65 := hx_ext (R := pEdges) F51 E61
  have g66 := E61.old g50
  have G54 : pBools (linksL (adjM (nMk size) (mkL size ns md)) (nMk size)) w55 (hidx [(0, R45.next)] M57) := hx_of F63
  obtain ⟨a52, c53, ew55⟩ := GRowsAt.form G54
  rw [linksL_len] at ew55
  subst ew55
  have lna52 := GRowsAt.ln G54
  have lg67 : M57.log = [] := by rw [← e60]; exact lg48
  have X68 := X47.trans E61
  have ltb27M74 := Mem.lt_of_get g66
  obtain ⟨w72, N73, M74, p75, l76, e77, E78, hM79, F80⟩ := call_fc (x := ((nMk size), (mkL size ns md))) hM62 con11 (⟨⟨_, rfl, _, rfl, hx_out (R := pEdges) F65⟩, mk_chk _ _ _⟩)
  have nx81 := E78.next
  have F82 := hx_ext (R := pEdges) F65 E78
  have F83 := hx_ext (R := pBools) G54 E78
  have g84 := E78.old g66
  have G71 : pBools (linksR (mkL size ns md) (nMk size)) w72 (hidx [(0, M57.next)] M74) := hx_of F80
  obtain ⟨a69, c70, ew72⟩ := GRowsAt.form G71
  rw [linksR_len] at ew72
  subst ew72
  have lna69 := GRowsAt.ln G71
  have lg85 : M74.log = [] := by rw [← e77]; exact lg67
  have X86 := X68.trans E78
  obtain ⟨M87, ef88⟩ : ∃ m : Mem, m = (Mem.mk M74.blks M74.next M74.hide (M74.log ++ M37.log)) := ⟨_, rfl⟩
  have X89 : Ext M M87 := by rw [ef88]; exact Ext.join (X41) (X86)
  have hM90 : MemOk M87 := by rw [ef88]; exact hM79
  have g91 : M87.get b27 = some ⟨[(i64 ((((nMk size) : Nat) : Int))), (.slice a12 (mkL size ns md).length c13)], 26, 2, 0, true⟩ := by rw [ef88]; exact g84
  have F92 := hx_still (R := pEdges) (M' := M87) F82 (fun id b h => by rw [ef88]; exact h)
  have F93 := hx_still (R := pBools) (M' := M87) F83 (fun id b h => by rw [ef88]; exact h)
  have F94 := hx_still (R := pBools) (M' := M87) G71 (fun id b h => by rw [ef88]; exact h)
  obtain ⟨R95, eR96⟩ : ∃ m : Mem, m = Mem.mk M87.blks M87.next M87.hide [] := ⟨_, rfl⟩
  have X97 : Ext (Mem.mk M.blks M.next M.hide []) R95 := by rw [eR96]; exact Ext.aside (X89)
  have lg98 : R95.log = [] := by rw [eR96]
  have nxR95 : R95.next = M87.next := by rw [eR96]
  have hM99 : MemOk R95 := by rw [eR96]; exact MemOk.log hM90
  have ltb27M87 : b27 < M74.next := by have h := Mem.lt_of_get g91; rw [ef88] at h; exact h
  have g100 : R95.get b27 = some ⟨[(i64 ((((nMk size) : Nat) : Int))), (.slice a12 (mkL size ns md).length c13)], 26, 2, 0, true⟩ := by rw [eR96]; exact g91
  have F101 := hx_still (R := pEdges) (M' := R95) F92 (fun id b h => by rw [eR96]; exact h)
  have F102 := hx_still (R := pBools) (M' := R95) F93 (fun id b h => by rw [eR96]; exact h)
  have F103 := hx_still (R := pBools) (M' := R95) F94 (fun id b h => by rw [eR96]; exact h)
  have ltb27M109 := Mem.lt_of_get g100
  obtain ⟨w107, N108, M109, p110, l111, e112, E113, hM114, F115⟩ := call_fc (x := ((nMk size), (mkL size ns md))) hM99 con13 (⟨⟨_, rfl, _, rfl, hx_out (R := pEdges) F101⟩, mk_chk _ _ _⟩)
  have nx116 := E113.next
  have F117 := hx_ext (R := pEdges) F101 E113
  have F118 := hx_ext (R := pBools) F102 E113
  have F119 := hx_ext (R := pBools) F103 E113
  have g120 := E113.old g100
  have G106 : pInts (orderL (nMk size) (mkL size ns md)) w107 (hidx [(0, R95.next)] M109) := hx_of F115
  obtain ⟨a104, c105, ew107⟩ := GRowsAt.form G106
  subst ew107
  have lg121 : M109.log = [] := by rw [← e112]; exact lg98
  have X122 := X97.trans E113
  have ltb27M128 := Mem.lt_of_get g120
  obtain ⟨w126, N127, M128, p129, l130, e131, E132, hM133, F134⟩ := call_fc (x := ((nMk size), (mkL size ns md))) hM114 con14 (⟨⟨_, rfl, _, rfl, hx_out (R := pEdges) F117⟩, mk_chk _ _ _⟩)
  have nx135 := E132.next
  have F137 := hx_ext (R := pBools) F118 E132
  have F138 := hx_ext (R := pBools) F119 E132
  have F139 := hx_ext (R := pInts) G106 E132
  have g140 := E132.old g120
  have G125 : pInts (orderR (nMk size) (mkL size ns md)) w126 (hidx [(0, M109.next)] M128) := hx_of F134
  obtain ⟨a123, c124, ew126⟩ := GRowsAt.form G125
  subst ew126
  have lg141 : M128.log = [] := by rw [← e131]; exact lg121
  have X142 := X122.trans E132
  have ltb27M145 := Mem.lt_of_get g140
  obtain ⟨w143, N144, M145, p146, l147, e148, E149, hM150, F151⟩ := call_fc (x := (orderL (nMk size) (mkL size ns md), orderR (nMk size) (mkL size ns md))) hM133 con12 (⟨_, _, rfl, hx_out (R := pInts) F139, hx_out (R := pInts) G125⟩)
  have nx152 := E149.next
  have F154 := hx_ext (R := pBools) F137 E149
  have F155 := hx_ext (R := pBools) F138 E149
  have ew143 : w143 = (.bool true) := by have h0 : w143 = .bool (decide (orderL (nMk size) (mkL size ns md) = orderR (nMk size) (mkL size ns md))) := F151; rw [h0, decide_eq_true (order_eq (mk_chk _ _ _))]
  subst ew143
  have lg159 : M145.log = [] := by rw [← e148]; exact lg141
  have X160 := X142.trans E149
  have hl161 : M87.log = (M74.log ++ M37.log) := by rw [ef88]
  obtain ⟨M162, ef163⟩ : ∃ m : Mem, m = (Mem.mk M145.blks M145.next M145.hide (M145.log ++ (M74.log ++ M37.log))) := ⟨_, rfl⟩
  have X164 : Ext M M162 := by rw [ef163, ← hl161]; exact Ext.join (X89) (X160)
  have hM165 : MemOk M162 := by rw [ef163]; exact hM150
  have F168 := hx_still (R := pBools) (M' := M162) F154 (fun id b h => by rw [ef163]; exact h)
  have F169 := hx_still (R := pBools) (M' := M162) F155 (fun id b h => by rw [ef163]; exact h)
  obtain ⟨M172, hL173, E174, hM175⟩ := loop3 hM165 (hx_out (R := pBools) F168) (by rw [links_eq (mk_chk _ _ _)]; exact hx_out (R := pBools) F169)
  have nx176 := E174.next
  have X183 := X164.trans E174
  have hraw := w3_raw size md ans cns ns M  M3 a12 c13 M18 b27 M28 M37 a52 c53 M57 a69 c70 M74 a104 c105 M109 a123 c124 M128 M145 M172
  have rw0 : Mem.mk M37.blks M37.next M37.hide [] = R45 := eR46.symm
  have rw1 : Mem.mk M57.blks M57.next M37.hide M57.log = M57 := by rw [(show M37.hide = M57.hide from ((X41).hide.trans (X68).hide.symm))]
  have rw2 : Mem.mk M57.blks M57.next (hides 0 [⟨1, 1, M37.next, M57.next⟩, ⟨0, 1, M37.next, M37.next⟩] ++ M37.hide) M57.log = hidx (hides 0 [⟨1, 1, M37.next, M57.next⟩, ⟨0, 1, M37.next, M37.next⟩]) M57 := by rw [(show M37.hide = M57.hide from ((X41).hide.trans (X68).hide.symm))]; rfl
  have rw3 : Mem.mk M74.blks M74.next M37.hide M74.log = M74 := by rw [(show M37.hide = M74.hide from ((X41).hide.trans (X86).hide.symm))]
  have rw4 : (Mem.mk M74.blks M74.next M37.hide (M74.log ++ M37.log)) = (Mem.mk M74.blks M74.next M74.hide (M74.log ++ M37.log)) := by rw [(show M37.hide = M74.hide from ((X41).hide.trans (X86).hide.symm))]
  have rw5 : (Mem.mk M74.blks M74.next M74.hide (M74.log ++ M37.log)) = M87 := ef88.symm
  have rw6 : Mem.mk M74.blks M74.next M37.hide [] = R95 := by rw [eR96]; simp only [ef88, (show M37.hide = M74.hide from ((X41).hide.trans (X86).hide.symm))]
  have rw7 : Mem.mk M109.blks M109.next M37.hide M109.log = M109 := by rw [(show M37.hide = M109.hide from ((X41).hide.trans (X122).hide.symm))]
  have rw8 : Mem.mk M109.blks M109.next (hides 63 [⟨7, 1, M74.next, M109.next⟩, ⟨6, 1, M74.next, M74.next⟩] ++ M37.hide) M109.log = hidx (hides 63 [⟨7, 1, M74.next, M109.next⟩, ⟨6, 1, M74.next, M74.next⟩]) M109 := by rw [(show M37.hide = M109.hide from ((X41).hide.trans (X122).hide.symm))]; rfl
  have rw9 : Mem.mk M128.blks M128.next M37.hide M128.log = M128 := by rw [(show M37.hide = M128.hide from ((X41).hide.trans (X142).hide.symm))]
  have rw10 : Mem.mk M145.blks M145.next M37.hide M145.log = M145 := by rw [(show M37.hide = M145.hide from ((X41).hide.trans (X160).hide.symm))]
  have rw11 : (Mem.mk M145.blks M145.next M37.hide (M145.log ++ (M74.log ++ M37.log))) = (Mem.mk M145.blks M145.next M145.hide (M145.log ++ (M74.log ++ M37.log))) := by rw [(show M37.hide = M145.hide from ((X41).hide.trans (X160).hide.symm))]
  have rw12 : (Mem.mk M145.blks M145.next M145.hide (M145.log ++ (M74.log ++ M37.log))) = M162 := ef163.symm
  try rw [rw0] at hraw
  try rw [rw1] at hraw
  try rw [rw2] at hraw
  try rw [rw3] at hraw
  try rw [rw4] at hraw
  try rw [rw5] at hraw
  try rw [rw6] at hraw
  try rw [rw7] at hraw
  try rw [rw8] at hraw
  try rw [rw9] at hraw
  try rw [rw10] at hraw
  try rw [rw11] at hraw
  try rw [rw12] at hraw
  exact ⟨(.bool true), M172, Ev.told_tmp noNumP mixedP Try.func3 q3_ok (by kernel_rfl) rK3 (fun B => specsB_ok (hS3_8_9_10_11_12_13_14 B) (k := [(0, bone (.loop (q3.loopAt 0)) Try.f3.ntmps [8, 9, 10] [some (.slice a52 (nMk size) c53), some (.slice a69 (nMk size) c70), some (i64 0)] M162 .normal (fr []) M172)]) (fun p hp => by simp only [List.mem_cons, List.not_mem_nil, or_false] at hp; rcases hp with rfl <;> first | exact BlkOk.loop noNumP mixedP hL173)) (fun _ h => blksF_one h) hraw (hk (q_call rfl p4 l5 e6) (hk (q_call rfl p19 l20 e21) (hk (q_eq (by rw [← eb29, ← em30]; kernel_rfl) Nat.one_ne_zero) (hk (q_st q38) (hk (lA ⟨dA26, dS26⟩ g50 rfl) (hk (q_call rfl p58 l59 e60) (hk (lA ⟨dA26, dS26⟩ (hidx_get.2 ⟨hides_low (by simp; omega), g66⟩) rfl) (hk (q_lt ltb27M37) (hk (q_call rfl p75 l76 e77) (hk (q_apart (by rw [lg85]; simp <;> omega)) (hk (lN lna52) (hk (lN lna69) (hk (bF (by first | simp_all | (simp; omega))) (hk (lA ⟨dA26, dS26⟩ g100 rfl) (hk (bF (by first | simp_all | (simp; omega))) (hk (q_call rfl p110 l111 e112) (hk (bF (by first | simp_all | (simp; omega))) (hk (lA ⟨dA26, dS26⟩ (hidx_get.2 ⟨hides_low (by simp; omega), g120⟩) rfl) (hk (q_lt ltb27M87) (hk (bF (by first | simp_all | (simp; omega))) (hk (q_call rfl p129 l130 e131) (hk (bF (by first | simp_all | (simp; omega))) (hk (q_call rfl p146 l147 e148) (hk (bF (by first | simp_all | (simp; omega))) (hk (bF (by first | simp_all | (simp; omega))) (hk (q_apart (by rw [lg159]; simp <;> omega)) (hk (q_blk rfl) hn))))))))))))))))))))))))))), X183, hM175, rfl⟩
end Go.Proofs.Ytfeabmmgmbddnaa
