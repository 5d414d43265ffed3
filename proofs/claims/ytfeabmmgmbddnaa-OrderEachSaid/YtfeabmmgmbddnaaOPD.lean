/-
  Package order: each of its laws for every argument; no conditions. The last text states which.
-/
import Derived.Test.YtfeabmmgmbddnaaOPC
open Go Go.Am Go.Proofs
namespace Go.Proofs.Ytfeabmmgmbddnaa
set_option maxRecDepth 100000
set_option linter.unusedVariables false
set_option linter.unusedSimpArgs false
theorem loop10 {b R n ab : Nat} {ad : AdjM} {M0 M : Mem} (hM : MemOk M) (X : Ext M0 M) (hadj : pAdj 59 ad (pt ab 0) M0) (hok : okA ad) (hn : n ≤ 60) (gb : M.get b = some ⟨[i64 ((n : Nat) : Int), pt ab 0], 46, 2, 0, true⟩) (hR : M0.next ≤ R) (dbR : b ≠ R) (gR : M.get R = some ⟨List.replicate n (.bool false), 4, 1, 0, true⟩) :
    ∃ M', LoopR Try.prog [] (q10.loopAt 0) Try.f10.ntmps (fr [(3, pt b 0), (4, sli R 0 n (n + 1)), (12, i64 ((n : Nat) : Int)), (13, i64 ((0 : Nat) : Int))]) M (.exit 0) (fr [(4, sli R 0 n (n + 1))]) M' ∧ Ext M0 M' ∧ MemOk M' ∧ M'.get R = some ⟨(linksL ad n).map .bool, 4, 1, 0, true⟩ := by
  have hxl : ((linksL ad n).map Value.bool).length = n := by simp [linksL]
  obtain ⟨_, M', h1, h2, h3, _, h4⟩ := LoopR.for (P := Try.prog) (GL := []) (b := q10.loopAt 0) (nt := Try.f10.ntmps) (id := 0) (σ := Unit) (n := n) (Inv := fun i _ M1 => Ext M0 M1 ∧ MemOk M1 ∧ M1.get b = some ⟨[i64 ((n : Nat) : Int), pt ab 0], 46, 2, 0, true⟩ ∧ M1.get R = some ⟨fillS ((linksL ad n).map .bool) i (.bool false), 4, 1, 0, true⟩)
    (F := fun i _ => [(3, pt b 0), (4, sli R 0 n (n + 1)), (12, i64 ((n : Nat) : Int)), (13, i64 ((i : Nat) : Int))])
    (O := fun _ => [(4, sli R 0 n (n + 1))])
    (by
      rintro i _ M1 hi ⟨X1, hM1, hg1, hg2⟩
      have e0 : 0 + (((i : Nat) : Int) : Int).toNat * 1 = i := by simp
      obtain ⟨T1, M2, h1, h2, h3, h4, h5, h6, _⟩ := r10 b R n ab i _ ad hM1 X1 hg1 hR hg2 dbR hadj hok (decide_eq_true (by omega)) (by rw [e0, fillS_len _ _ (by omega)]; omega)
      rw [wrap_succ (by omega)] at h2
      rw [e0, fillS_step (by simp [linksL, hi])] at h6
      exact ⟨(), T1, M2, h1, h2, h3, h4, h5, h6⟩)
    (by
      rintro _ M1 ⟨X1, hM1, _⟩
      exact r10x b R n n (M := M1) (decide_eq_false (by omega)))
    n 0 (by omega) (s := ()) (M := M) ⟨X, hM, gb, by rw [fillS_zero, hxl]; exact gR⟩
  refine ⟨M', h1, h2, h3, ?_⟩
  have := fillS_all ((linksL ad n).map Value.bool) (.bool false)
  rw [hxl] at this
  rw [this] at h4
  exact h4
theorem rK10 : Try.f10.results = #[.tmp 2] := by kernel_rfl
theorem hS10_20 (B : Bd) : ∀ p ∈ ([(20, pick (Con Try.prog [] 20 Q20))] : List (FuncId × (List Value → Mem → Option (Value × Mem)))), SpecOk Try.prog [] B p.1 p.2 := (fun p hp => by simp only [List.mem_cons, List.not_mem_nil, or_false] at hp; rcases hp with rfl <;> first | exact Con.ok _)
theorem w10_raw (n : Nat) (al : Option Addr) (cl : Nat) (l : List E4) (M : Mem) (b1 : Nat) (M2 : Mem) (ab10 : Nat) (M15 : Mem) (b25 : Nat) (M26 : Mem) (M36 : Mem) (b45 : Nat) (M46 : Mem) (M56 : Mem) : oT Try.prog [0] 60 Try.f10 q10 [(.agg ⟨[(i64 (((n : Nat) : Int))), (.slice al l.length cl)]⟩)] M [ttV 1 (pt b1 0) M2, ttL 5 (.agg ⟨[(i64 (((n : Nat) : Int))), (.slice al l.length cl)]⟩), ttV 7 (.agg ⟨[(i64 (((n : Nat) : Int))), (pt ab10 0)]⟩) M15, ttV 9 (pt b25 0) M26, ttS 11 M36, ttL 15 (i64 (((n : Nat) : Int))), ttV 17 (sli b45 0 n (n + 1)) M46, .blk 26 [3, 4, 12, 13] .normal (fr [(4, (sli b45 0 n (n + 1)))]) M56] 2 = some (.ret, some (sli b45 0 n (n + 1)), M56, [.eq (abox Try.prog 26 (.agg ⟨[(i64 (((n : Nat) : Int))), (.slice al l.length cl)]⟩) M) (1, .val (pt b1 0), M2), qL 26 b1 0 M2 (.agg ⟨[(i64 (((n : Nat) : Int))), (.slice al l.length cl)]⟩), qC 20 [(.agg ⟨[(i64 (((n : Nat) : Int))), (.slice al l.length cl)]⟩)] M2 (.agg ⟨[(i64 (((n : Nat) : Int))), (pt ab10 0)]⟩) M15, .eq (aalloc Try.prog 46 M15) (1, .val (pt b25 0), M26), qS 46 b25 0 (.agg ⟨[(i64 (((n : Nat) : Int))), (pt ab10 0)]⟩) M26 M36, qL 3 b25 0 M36 (i64 (((n : Nat) : Int))), .eq (amakeSlice Try.prog 28 (i64 (((n : Nat) : Int))) (i64 (((n : Nat) : Int))) M36) (1, .val (sli b45 0 n (n + 1)), M46), .blk 0 (.loop (q10.loopAt 0)) Try.f10.ntmps [3, 4, 12, 13] [some (pt b25 0), some (sli b45 0 n (n + 1)), some (i64 (((n : Nat) : Int))), some (i64 0)] M46 .normal (fr [(4, (sli b45 0 n (n + 1)))]) M56]) := by kernel_rfl
theorem w10 (n : Nat) (al : Option Addr) (cl : Nat) (l : List E4) {M : Mem} (hM : MemOk M) (hl : pEdges l (.slice al l.length cl) M) (hck : chkN ((n : Nat) : Int) l = true) (hok : okA (adjM n l)) (hn60 : n ≤ 60) : ∃ v_ M', Ev Try.prog [] 10 [(.agg ⟨[(i64 (((n : Nat) : Int))), (.slice al l.length cl)]⟩)] M v_ M' ∧ Ext M M' ∧ MemOk M' ∧ newR pBools (linksL (adjM n l) n) M.next v_ M' := by
  obtain ⟨b1, M2, eb3, em4, g5, E6, hM7⟩ := new_t hM ⟨[(i64 (((n : Nat) : Int))), (.slice al l.length cl)], 26, 2, 0, true⟩
  have nb1 : M.next ≤ b1 := by rw [← eb3]; exact (Ext.refl M).next
  have nx8 := E6.next
  have X9 := (Ext.refl M).trans E6
  have ltb1M15 := Mem.lt_of_get g5
  obtain ⟨w13, N14, M15, p16, l17, e18, E19, hM20, F21⟩ := call_fc (x := (n, l)) hM7 con20 (⟨⟨_, rfl, _, rfl, AP.Ext (R := pEdges) hl X9⟩, hck⟩)
  have nx22 := E19.next
  have g23 := E19.old g5
  obtain ⟨p12, ew13, G11⟩ : pSight 59 (n, adjM n l) w13 (hidx [(0, M2.next)] M15) := hx_of F21
  simp only at ew13 G11
  obtain ⟨ab10, _, _, _, _, ep12, _⟩ := id G11
  subst ep12
  subst ew13
  have X24 := X9.trans E19
  obtain ⟨b25, M26, eb27, em28, g29, E30, hM31⟩ := new_t hM20 ⟨[(i64 0), (.pointer none)], 46, 2, 0, true⟩
  have nb25 : M.next ≤ b25 := by rw [← eb27]; exact X24.next
  have db1b25 : b1 ≠ b25 := by have := Mem.lt_of_get g23; omega
  have F32 := hx_new (R := (pAdj 59)) G11 eb27 E30
  have g33 := E30.old g23
  have nx34 := E30.next
  have X35 := X24.trans E30
  obtain ⟨M36, q37, g38, kp39, X40, hM41, nx42⟩ := store_t (o := 0) (v := (.agg ⟨[(i64 (((n : Nat) : Int))), (pt ab10 0)]⟩)) (new := [(i64 (((n : Nat) : Int))), (pt ab10 0)]) X35 nb25 hM31 dS46 g29 rfl rfl (Nat.zero_le _) (Nat.le_of_ble_eq_true rfl) rfl
  replace g38 : M36.get b25 = some ⟨[(i64 (((n : Nat) : Int))), (pt ab10 0)], 46, 2, 0, true⟩ := g38
  have F43 := hx_keep (R := (pAdj 59)) F32 (fun id h _ => kp39 id h) (by intro id hh; simp only [hidden_con] at hh; omega)
  have g44 := (kp39 _ db1b25).trans g33
  obtain ⟨b45, M46, eb47, em48, g49, E50, hM51⟩ := mks_t (P := Try.prog) (t := 28) (elem := 4) (z := (.bool false)) (n := n) hM41 (by kernel_rfl) (by kernel_rfl) (by omega)
  have nb45 : M.next ≤ b45 := by rw [← eb47]; exact X40.next
  have db1b45 : b1 ≠ b45 := by have := Mem.lt_of_get g44; omega
  have db25b45 : b25 ≠ b45 := by have := Mem.lt_of_get g38; omega
  have g54 := E50.old g38
  obtain ⟨M56, hL57, X58, hM59, g60⟩ := loop10 hM51 E50 (hx_out (R := pAdj 59) F43) hok hn60 g54 (Nat.le_of_eq eb47) db25b45 g49
  have X62 := (X40).trans X58
  have hraw := w10_raw n al cl l M  b1 M2 ab10 M15 b25 M26 M36 b45 M46 M56
  exact ⟨(sli b45 0 n (n + 1)), M56, Ev.told_tmp noNumP mixedP Try.func10 q10_ok (by kernel_rfl) rK10 (fun B => specsB_ok (hS10_20 B) (k := [(0, bone (.loop (q10.loopAt 0)) Try.f10.ntmps [3, 4, 12, 13] [some (pt b25 0), some (sli b45 0 n (n + 1)), some (i64 (((n : Nat) : Int))), some (i64 0)] M46 .normal (fr [(4, (sli b45 0 n (n + 1)))]) M56)]) (fun p hp => by simp only [List.mem_cons, List.not_mem_nil, or_false] at hp; rcases hp with rfl <;> first | exact BlkOk.loop noNumP mixedP hL57)) (fun _ h => blksF_one h) hraw (hk (q_eq (by rw [← eb3, ← em4]; kernel_rfl) Nat.one_ne_zero) (hk (lA ⟨dA26, dS26⟩ g5 rfl) (hk (q_call rfl p16 l17 e18) (hk (q_eq (by rw [← eb27, ← em28]; kernel_rfl) Nat.one_ne_zero) (hk (q_st q37) (hk (lC dC3 g38 rfl) (hk (q_eq em48 Nat.one_ne_zero) (hk (q_blk rfl) hn)))))))), X62, hM59, GRowsAt.of_blk' (b := b45) (w := 1) (g := bRow) (hid_of nb45 g60) (by simp [linksL]) (flat1 _).symm (fun _ _ => rfl) (by simp [linksL]; omega)⟩
abbrev Q10 := FC (asP (as1 pNetN) fun x => chkN ((x.1 : Nat) : Int) x.2 = true) (newR pBools) (fun x => linksL (adjM x.1 x.2) x.1)
theorem con10 {x : Nat × List E4} {lv : List Value} {M : Mem} (hM : MemOk M) (h : (asP (as1 pNetN) fun x : Nat × List E4 => chkN ((x.1 : Nat) : Int) x.2 = true) x lv M) : ∃ v M', Con Try.prog [] 10 Q10 lv M v M' := by
  refine FC.con h ?_
  obtain ⟨⟨g0, rfl, k0⟩, hck⟩ := h
  obtain ⟨n, l⟩ := x
  obtain ⟨_, rfl, hl⟩ := k0
  obtain ⟨a, c, rfl⟩ := GRowsAt.form hl
  obtain ⟨v, M', h1, h2, _, h3⟩ := w10 n a c l hM hl hck (okA_adjM hck) (by have := (chkN_spec hck).2.1; simp only at this ⊢; omega)
  exact ⟨v, M', h1, h2, h3⟩
theorem rK13 : Try.f13.results = #[.tmp 2] := by kernel_rfl
theorem hS13_20_23_24 (B : Bd) : ∀ p ∈ ([(20, pick (Con Try.prog [] 20 Q20)), (23, pick (Con Try.prog [] 23 Q23)), (24, pick (Con Try.prog [] 24 Q24))] : List (FuncId × (List Value → Mem → Option (Value × Mem)))), SpecOk Try.prog [] B p.1 p.2 := (fun p hp => by simp only [List.mem_cons, List.not_mem_nil, or_false] at hp; rcases hp with rfl | rfl | rfl <;> first | exact Con.ok _)
theorem w13_raw (n : Nat) (al : Option Addr) (cl : Nat) (l : List E4) (M : Mem) (b1 : Nat) (M2 : Mem) (ab10 : Nat) (M15 : Mem) (b25 : Nat) (M26 : Mem) (M36 : Mem) (a53 : Option Addr) (c54 : Nat) (M58 : Mem) (a71 : Option Addr) (c72 : Nat) (M76 : Mem) : oT Try.prog [] 60 Try.f13 q13 [(.agg ⟨[(i64 (((n : Nat) : Int))), (.slice al l.length cl)]⟩)] M [ttV 1 (pt b1 0) M2, ttL 5 (.agg ⟨[(i64 (((n : Nat) : Int))), (.slice al l.length cl)]⟩), ttV 7 (.agg ⟨[(i64 (((n : Nat) : Int))), (pt ab10 0)]⟩) M15, ttV 9 (pt b25 0) M26, ttS 11 M36, ttL 13 (.agg ⟨[(i64 (((n : Nat) : Int))), (pt ab10 0)]⟩), ttV 15 (.slice a53 (othersTo (adjM n l) n).length c54) M58, ttL 17 (.agg ⟨[(i64 (((n : Nat) : Int))), (pt ab10 0)]⟩), ttV 21 (.slice a71 (orderL n l).length c72) M76] 2 = some (.ret, some (.slice a71 (orderL n l).length c72), (Mem.mk M76.blks M76.next M36.hide (M76.log ++ M36.log)), [.eq (abox Try.prog 26 (.agg ⟨[(i64 (((n : Nat) : Int))), (.slice al l.length cl)]⟩) M) (1, .val (pt b1 0), M2), qL 26 b1 0 M2 (.agg ⟨[(i64 (((n : Nat) : Int))), (.slice al l.length cl)]⟩), qC 20 [(.agg ⟨[(i64 (((n : Nat) : Int))), (.slice al l.length cl)]⟩)] M2 (.agg ⟨[(i64 (((n : Nat) : Int))), (pt ab10 0)]⟩) M15, .eq (aalloc Try.prog 46 M15) (1, .val (pt b25 0), M26), qS 46 b25 0 (.agg ⟨[(i64 (((n : Nat) : Int))), (pt ab10 0)]⟩) M26 M36, qL 46 b25 0 (Mem.mk M36.blks M36.next M36.hide []) (.agg ⟨[(i64 (((n : Nat) : Int))), (pt ab10 0)]⟩), qC 24 [(.agg ⟨[(i64 (((n : Nat) : Int))), (pt ab10 0)]⟩)] (Mem.mk M36.blks M36.next M36.hide []) (.slice a53 (othersTo (adjM n l) n).length c54) M58, qL 46 b25 0 (Mem.mk M58.blks M58.next (hides 0 [⟨1, 1, M36.next, M58.next⟩, ⟨0, 1, M36.next, M36.next⟩] ++ M36.hide) M58.log) (.agg ⟨[(i64 (((n : Nat) : Int))), (pt ab10 0)]⟩), qT (Nat.blt b25 M36.next), qC 23 [(.slice a53 (othersTo (adjM n l) n).length c54), (.func (.func 25) ⟨[(.agg ⟨[(i64 (((n : Nat) : Int))), (pt ab10 0)]⟩)]⟩ ⟨[]⟩)] (Mem.mk M58.blks M58.next M36.hide M58.log) (.slice a71 (orderL n l).length c72) M76, qT (apartN [b25] M76.log)]) := by kernel_rfl
theorem w13 (n : Nat) (al : Option Addr) (cl : Nat) (l : List E4) {M : Mem} (hM : MemOk M) (hl : pEdges l (.slice al l.length cl) M) (hck : chkN ((n : Nat) : Int) l = true) (hok : okA (adjM n l)) (hn60 : n ≤ 60) : ∃ v_ M', Ev Try.prog [] 13 [(.agg ⟨[(i64 (((n : Nat) : Int))), (.slice al l.length cl)]⟩)] M v_ M' ∧ Ext M M' ∧ MemOk M' ∧ newR pInts (orderL n l) M.next v_ M' := by
  obtain ⟨b1, M2, eb3, em4, g5, E6, hM7⟩ := new_t hM ⟨[(i64 (((n : Nat) : Int))), (.slice al l.length cl)], 26, 2, 0, true⟩
  have nb1 : M.next ≤ b1 := by rw [← eb3]; exact (Ext.refl M).next
  have nx8 := E6.next
  have X9 := (Ext.refl M).trans E6
  have ltb1M15 := Mem.lt_of_get g5
  obtain ⟨w13, N14, M15, p16, l17, e18, E19, hM20, F21⟩ := call_fc (x := (n, l)) hM7 con20 (⟨⟨_, rfl, _, rfl, AP.Ext (R := pEdges) hl X9⟩, hck⟩)
  have nx22 := E19.next
  have g23 := E19.old g5
  obtain ⟨p12, ew13, G11⟩ : pSight 59 (n, adjM n l) w13 (hidx [(0, M2.next)] M15) := hx_of F21
  simp only at ew13 G11
  obtain ⟨ab10, _, _, _, _, ep12, _⟩ := id G11
  subst ep12
  subst ew13
  have X24 := X9.trans E19
  obtain ⟨b25, M26, eb27, em28, g29, E30, hM31⟩ := new_t hM20 ⟨[(i64 0), (.pointer none)], 46, 2, 0, true⟩
  have nb25 : M.next ≤ b25 := by rw [← eb27]; exact X24.next
  have db1b25 : b1 ≠ b25 := by have := Mem.lt_of_get g23; omega
  have F32 := hx_new (R := (pAdj 59)) G11 eb27 E30
  have g33 := E30.old g23
  have nx34 := E30.next
  have X35 := X24.trans E30
  obtain ⟨M36, q37, g38, kp39, X40, hM41, nx42⟩ := store_t (o := 0) (v := (.agg ⟨[(i64 (((n : Nat) : Int))), (pt ab10 0)]⟩)) (new := [(i64 (((n : Nat) : Int))), (pt ab10 0)]) X35 nb25 hM31 dS46 g29 rfl rfl (Nat.zero_le _) (Nat.le_of_ble_eq_true rfl) rfl
  replace g38 : M36.get b25 = some ⟨[(i64 (((n : Nat) : Int))), (pt ab10 0)], 46, 2, 0, true⟩ := g38
  have F43 := hx_keep (R := (pAdj 59)) F32 (fun id h _ => kp39 id h) (by intro id hh; simp only [hidden_con] at hh; omega)
  have g44 := (kp39 _ db1b25).trans g33
  obtain ⟨R45, eR46⟩ : ∃ m : Mem, m = Mem.mk M36.blks M36.next M36.hide [] := ⟨_, rfl⟩
  have X47 : Ext (Mem.mk M.blks M.next M.hide []) R45 := by rw [eR46]; exact Ext.aside (X40)
  have lg48 : R45.log = [] := by rw [eR46]
  have nxR45 : R45.next = M36.next := by rw [eR46]
  have hM49 : MemOk R45 := by rw [eR46]; exact MemOk.log hM41
  have ltb1M36 : b1 < M36.next := by have h := Mem.lt_of_get g44; exact h
  have g50 : R45.get b1 = some ⟨[(i64 (((n : Nat) : Int))), (.slice al l.length cl)], 26, 2, 0, true⟩ := by rw [eR46]; exact g44
  have ltb25M36 : b25 < M36.next := by have h := Mem.lt_of_get g38; exact h
  have g51 : R45.get b25 = some ⟨[(i64 (((n : Nat) : Int))), (pt ab10 0)], 46, 2, 0, true⟩ := by rw [eR46]; exact g38
  have F52 := hx_still (R := (pAdj 59)) (M' := R45) F43 (fun id b h => by rw [eR46]; exact h)
  have ltb1M58 := Mem.lt_of_get g50
  have ltb25M58 := Mem.lt_of_get g51
  obtain ⟨w56, N57, M58, p59, l60, e61, E62, hM63, F64⟩ := call_fc (x := (n, adjM n l)) hM49 con24 (⟨⟨_, rfl, _, rfl, hx_out (R := pAdj 59) F52⟩, hok, hn60⟩)
  have nx65 := E62.next
  have F66 := hx_ext (R := (pAdj 59)) F52 E62
  have g67 := E62.old g50
  have g68 := E62.old g51
  have G55 : pInts (othersTo (adjM n l) n) w56 (hidx [(0, R45.next)] M58) := hx_of F64
  obtain ⟨a53, c54, ew56⟩ := GRowsAt.form G55
  subst ew56
  have lg69 : M58.log = [] := by rw [← e61]; exact lg48
  have X70 := X47.trans E62
  have ltb1M76 := Mem.lt_of_get g67
  have ltb25M76 := Mem.lt_of_get g68
  obtain ⟨w74, N75, M76, p77, l78, e79, E80, hM81, F82⟩ := call_fc (x := (othersTo (adjM n l) n, n, adjM n l)) hM63 con23 (⟨⟨_, _, rfl, hx_out (R := pInts) G55, _, rfl, _, rfl, hx_out (R := pAdj 59) F66⟩, hok, Nat.le_trans (othersTo_len (adjM n l) n) hn60⟩)
  have nx83 := E80.next
  have G73 : pInts (orderL n l) w74 (hidx [(0, M58.next)] M76) := hx_of F82
  obtain ⟨a71, c72, ew74⟩ := GRowsAt.form G73
  subst ew74
  have lg88 : M76.log = [] := by rw [← e79]; exact lg69
  have X89 := X70.trans E80
  obtain ⟨M90, ef91⟩ : ∃ m : Mem, m = (Mem.mk M76.blks M76.next M76.hide (M76.log ++ M36.log)) := ⟨_, rfl⟩
  have X92 : Ext M M90 := by rw [ef91]; exact Ext.join (X40) (X89)
  have hM93 : MemOk M90 := by rw [ef91]; exact hM81
  have F98 := hx_still (R := pInts) (M' := M90) G73 (fun id b h => by rw [ef91]; exact h)
  have hraw := w13_raw n al cl l M  b1 M2 ab10 M15 b25 M26 M36 a53 c54 M58 a71 c72 M76
  have rw0 : Mem.mk M36.blks M36.next M36.hide [] = R45 := eR46.symm
  have rw1 : Mem.mk M58.blks M58.next M36.hide M58.log = M58 := by rw [(show M36.hide = M58.hide from ((X40).hide.trans (X70).hide.symm))]
  have rw2 : Mem.mk M58.blks M58.next (hides 0 [⟨1, 1, M36.next, M58.next⟩, ⟨0, 1, M36.next, M36.next⟩] ++ M36.hide) M58.log = hidx (hides 0 [⟨1, 1, M36.next, M58.next⟩, ⟨0, 1, M36.next, M36.next⟩]) M58 := by rw [(show M36.hide = M58.hide from ((X40).hide.trans (X70).hide.symm))]; rfl
  have rw3 : Mem.mk M76.blks M76.next M36.hide M76.log = M76 := by rw [(show M36.hide = M76.hide from ((X40).hide.trans (X89).hide.symm))]
  have rw4 : (Mem.mk M76.blks M76.next M36.hide (M76.log ++ M36.log)) = (Mem.mk M76.blks M76.next M76.hide (M76.log ++ M36.log)) := by rw [(show M36.hide = M76.hide from ((X40).hide.trans (X89).hide.symm))]
  have rw5 : (Mem.mk M76.blks M76.next M76.hide (M76.log ++ M36.log)) = M90 := ef91.symm
  try rw [rw0] at hraw
  try rw [rw1] at hraw
  try rw [rw2] at hraw
  try rw [rw3] at hraw
  try rw [rw4] at hraw
  try rw [rw5] at hraw
  exact ⟨(.slice a71 (orderL n l).length c72), M90, Ev.told_tmp noNumP mixedP Try.func13 q13_ok (by kernel_rfl) rK13 (fun B => specsB_ok (k := []) (hS13_20_23_24 B) (fun p hp => by cases hp)) (fun _ _ => rfl) hraw (hk (q_eq (by rw [← eb3, ← em4]; kernel_rfl) Nat.one_ne_zero) (hk (lA ⟨dA26, dS26⟩ g5 rfl) (hk (q_call rfl p16 l17 e18) (hk (q_eq (by rw [← eb27, ← em28]; kernel_rfl) Nat.one_ne_zero) (hk (q_st q37) (hk (lA ⟨dA46, dS46⟩ g51 rfl) (hk (q_call rfl p59 l60 e61) (hk (lA ⟨dA46, dS46⟩ (hidx_get.2 ⟨hides_low (by simp; omega), g68⟩) rfl) (hk (q_lt ltb25M36) (hk (q_call rfl p77 l78 e79) (hk (q_apart (by rw [lg88]; simp <;> omega)) hn))))))))))), X92, hM93, hx_to (R := pInts) F98 (by intro id hh; simp only [hidden_con] at hh; omega)⟩
abbrev Q13 := FC (asP (as1 pNetN) fun x => chkN ((x.1 : Nat) : Int) x.2 = true) (newR pInts) (fun x => orderL x.1 x.2)
theorem con13 {x : Nat × List E4} {lv : List Value} {M : Mem} (hM : MemOk M) (h : (asP (as1 pNetN) fun x : Nat × List E4 => chkN ((x.1 : Nat) : Int) x.2 = true) x lv M) : ∃ v M', Con Try.prog [] 13 Q13 lv M v M' := by
  refine FC.con h ?_
  obtain ⟨⟨g0, rfl, k0⟩, hck⟩ := h
  obtain ⟨n, l⟩ := x
  obtain ⟨_, rfl, hl⟩ := k0
  obtain ⟨a, c, rfl⟩ := GRowsAt.form hl
  obtain ⟨v, M', h1, h2, _, h3⟩ := w13 n a c l hM hl hck (okA_adjM hck) (by have := (chkN_spec hck).2.1; simp only at this ⊢; omega)
  exact ⟨v, M', h1, h2, h3⟩
end Go.Proofs.Ytfeabmmgmbddnaa
