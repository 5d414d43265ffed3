/-
  Package adj: each of its laws for every argument; no conditions. The last text states which.
-/
import Derived.Test.YtipnhelkganmdaaGUK
import Derived.Test.YtipnhelkganmdaaGAmBk
open Go Go.Am Go.Proofs
namespace Go.Proofs.Ytipnhelkganmdaa
set_option maxRecDepth 100000
set_option linter.unusedVariables false
set_option linter.unusedSimpArgs false
theorem rK19 : Try.f19.results = #[.tmp 2] := by kernel_rfl
theorem w15_raw (n : Nat) (al : Option Addr) (cl : Nat) (l : List E4) (M : Mem) (b1 : Nat) (M2 : Mem) (b10 : Nat) (M11 : Mem) : oT Try.prog [] 51 Try.f19 q19 [(.agg ⟨[(i64 (((n : Nat) : Int))), (.slice al l.length cl)]⟩)] M [ttV 1 (pt b1 0) M2, ttL 5 (.agg ⟨[(i64 (((n : Nat) : Int))), (.slice al l.length cl)]⟩), ttV 9 (pt b10 0) M11] 2 = some (.ret, some (pt b10 0), M11, [.eq (abox Try.prog 26 (.agg ⟨[(i64 (((n : Nat) : Int))), (.slice al l.length cl)]⟩) M) (1, .val (pt b1 0), M2), qL 26 b1 0 M2 (.agg ⟨[(i64 (((n : Nat) : Int))), (.slice al l.length cl)]⟩), .eq (abox Try.prog 59 (.agg ⟨[(i64 (((n : Nat) : Int))), (.slice al l.length cl)]⟩) M2) (1, .val (pt b10 0), M11)]) := by kernel_rfl
theorem w15 (n : Nat) (al : Option Addr) (cl : Nat) (l : List E4) {M : Mem} (hM : MemOk M) (hl : pEdges l (.slice al l.length cl) M) : ∃ v_ M', Ev Try.prog [] 19 [(.agg ⟨[(i64 (((n : Nat) : Int))), (.slice al l.length cl)]⟩)] M v_ M' ∧ Ext M M' ∧ MemOk M' ∧ pRefA 59 (n, l) v_ M' ∧ ∃ b, v_ = pt b 0 ∧ M.next ≤ b := by
  obtain ⟨b1, M2, eb3, em4, g5, E6, hM7⟩ := new_t hM ⟨[(i64 (((n : Nat) : Int))), (.slice al l.length cl)], 26, 2, 0, true⟩
  have nb1 : M.next ≤ b1 := by rw [← eb3]; exact (Ext.refl M).next
  have nx8 := E6.next
  have X9 := (Ext.refl M).trans E6
  obtain ⟨b10, M11, eb12, em13, g14, E15, hM16⟩ := new_t hM7 ⟨[(i64 (((n : Nat) : Int))), (.slice al l.length cl)], 59, 2, 0, true⟩
  have nb10 : M.next ≤ b10 := by rw [← eb12]; exact X9.next
  have db1b10 : b1 ≠ b10 := by have := Mem.lt_of_get g5; omega
  have g17 := E15.old g5
  have nx18 := E15.next
  have X19 := X9.trans E15
  have hraw := w15_raw n al cl l M  b1 M2 b10 M11
  exact ⟨(pt b10 0), M11, Ev.told_tmp noNumP mixedP Try.func19 q19_ok (by kernel_rfl) rK19 (specs_none Try.prog) (fun _ _ => rfl) hraw (hk (q_eq (by rw [← eb3, ← em4]; kernel_rfl) Nat.one_ne_zero) (hk (lA ⟨dA26, dS26⟩ g5 rfl) (hk (q_eq (by rw [← eb12, ← em13]; kernel_rfl) Nat.one_ne_zero) hn))), X19, hM16, ⟨b10, _, rfl, g14, AP.Ext (R := pEdges) hl X19⟩, b10, rfl, nb10⟩
abbrev Q19 := FC (as1 pNetN) (plain (pRefA 59)) id
theorem con19 {x : Nat × List E4} {lv : List Value} {M : Mem} (hM : MemOk M) (h : (as1 pNetN) x lv M) : ∃ v M', Con Try.prog [] 19 Q19 lv M v M' := by
  refine FC.con h ?_
  obtain ⟨g0, rfl, k0⟩ := h
  obtain ⟨n, l⟩ := x
  obtain ⟨_, rfl, hl⟩ := k0
  obtain ⟨a, c, rfl⟩ := GRowsAt.form hl
  obtain ⟨v, M', h1, h2, _, h3, _⟩ := w15 n a c l hM hl
  exact ⟨v, M', h1, h2, h3⟩
theorem r16L_raw (rb bb o m c i : Nat) (v : Int) (S vn : Value) (e : E4) (M : Mem)  : oR Try.prog [] 51 Try.f21 (q21.loopAt 0) [(0, (pt rb 0)), (1, (i64 v)), (5, S), (6, (i64 (((i : Nat) : Int))))] M [ttL 11 (sli bb o m c), ttT 16, ttL 26 (sli bb o m c), ttT 30, ttL 34 (i64 e.f), ttF 39] [0, 1, 5, 6] = some (.normal, [some (pt rb 0), some (i64 v), some S, some (i64 (IntKind.wrap .i64 ((((i : Nat) : Int)) + (1 : Int))))], M, [qL 24 rb 1 M (sli bb o m c), qT (decide ((((i : Nat) : Int)) < (((m : Nat) : Int)))), qL 24 rb 1 M (sli bb o m c), .q (.inb (((i : Nat) : Int)) m) (ansB true), qL 3 bb (o + (((i : Nat) : Int) : Int).toNat * 4) M (i64 e.f), qF (e.f == v)]) := by kernel_rfl
theorem r16L (rb bb o m c i : Nat) (v : Int) (S vn : Value) (e : E4) {M : Mem} {M0 : Mem} (X0 : Ext M0 M) (grb : M.get rb = some ⟨[vn, (sli bb o m c)], 59, 2, 0, true⟩) (cc0 : (decide ((((i : Nat) : Int)) < (((m : Nat) : Int)))) = true) (cc1 : (e.f == v) = false) (hld0 : aload Try.prog 3 ⟨bb, o + (((i : Nat) : Int) : Int).toNat * 4, none⟩ M0 = some (i64 e.f)) : ∃ T1, Rd Try.prog [] (q21.loopAt 0) Try.f21.ntmps (fr [(0, (pt rb 0)), (1, (i64 v)), (5, S), (6, (i64 (((i : Nat) : Int))))]) M .normal T1 M ∧ [0, 1, 5, 6].map T1.get = [some (pt rb 0), some (i64 v), some S, some (i64 (IntKind.wrap .i64 ((((i : Nat) : Int)) + (1 : Int))))] := by
  have hraw := r16L_raw rb bb o m c i v S vn e M  
  obtain ⟨T1, h1, h2⟩ := Rd.told noNumP mixedP (specs_none Try.prog) (fun _ _ => rfl) hraw (hk (lC dC24 grb rfl) (hk (bT cc0) (hk (lC dC24 grb rfl) (hk (q_inb (by omega) (by simp at cc0; omega)) (hk (q_ld (aload_ext X0 hld0)) (hk (bF cc1) hn))))))
  exact ⟨T1, h1, h2⟩
theorem r16N_raw (rb bb o m c i : Nat) (v : Int) (vn : Value) (e : E4) (M : Mem) (b1 : Nat) (M2 : Mem) (b11 : Nat) (M12 : Mem) : oR Try.prog [] 51 Try.f21 (q21.loopAt 0) [(0, (pt rb 0)), (1, (i64 v)), (5, sln), (6, (i64 (((i : Nat) : Int))))] M [ttL 11 (sli bb o m c), ttT 16, ttL 26 (sli bb o m c), ttT 30, ttL 34 (i64 e.f), ttT 39, ttV 45 (sli b1 0 1 2) M2, .at 47 (1, .val (sli b11 0 1 1), M12)] [0, 1, 5, 6] = some (.normal, [some (pt rb 0), some (i64 v), some (sli b11 0 1 1), some (i64 (IntKind.wrap .i64 ((((i : Nat) : Int)) + (1 : Int))))], M12, [qL 24 rb 1 M (sli bb o m c), qT (decide ((((i : Nat) : Int)) < (((m : Nat) : Int)))), qL 24 rb 1 M (sli bb o m c), .q (.inb (((i : Nat) : Int)) m) (ansB true), qL 3 bb (o + (((i : Nat) : Int) : Int).toNat * 4) M (i64 e.f), qT (e.f == v), .eq (abuildSlice Try.prog 22 1 [(0, (i64 (((i : Nat) : Int))))] M) (1, .val (sli b1 0 1 2), M2), .q (.append [22, 22] sln (sli b1 0 1 2) M2) (1, .val (sli b11 0 1 1), M12)]) := by kernel_rfl
theorem r16N (rb bb o m c i : Nat) (v : Int) (vn : Value) (e : E4) {M M0 : Mem} (hM : MemOk M) (X0 : Ext M0 M) (grb : M.get rb = some ⟨[vn, (sli bb o m c)], 59, 2, 0, true⟩) (cc0 : (decide ((((i : Nat) : Int)) < (((m : Nat) : Int)))) = true) (cc1 : (e.f == v) = true) (hld0 : aload Try.prog 3 ⟨bb, o + (((i : Nat) : Int) : Int).toNat * 4, none⟩ M0 = some (i64 e.f)) : ∃ T1 M' b11, Rd Try.prog [] (q21.loopAt 0) Try.f21.ntmps (fr [(0, (pt rb 0)), (1, (i64 v)), (5, sln), (6, (i64 (((i : Nat) : Int))))]) M .normal T1 M' ∧ [0, 1, 5, 6].map T1.get = [some (pt rb 0), some (i64 v), some (sli b11 0 1 1), some (i64 (IntKind.wrap .i64 ((((i : Nat) : Int)) + (1 : Int))))] ∧ Ext M0 M' ∧ MemOk M' ∧ M'.get rb = some ⟨[vn, (sli bb o m c)], 59, 2, 0, true⟩ ∧ M0.next ≤ b11 ∧ M'.get b11 = some ⟨[(i64 (((i : Nat) : Int)))], 3, 1, 0, true⟩ ∧ ∀ id k, M.get id = some k → id ≠ rb → M'.get id = some k := by
  obtain ⟨b1, M2, eb3, em4, g5, E6, hM7⟩ := new_t hM ⟨[(i64 (((i : Nat) : Int)))], 3, 1, 0, true⟩
  have nb1 : M0.next ≤ b1 := by rw [← eb3]; exact X0.next
  have drbb1 : rb ≠ b1 := by have := Mem.lt_of_get grb; omega
  have g8 := E6.old grb
  have nx9 := E6.next
  have X10 := X0.trans E6
  obtain ⟨b11, M12, eb13, em14, g15, E17, hM16⟩ := new_t hM7 ⟨[(i64 (((i : Nat) : Int)))], 3, 1, 0, true⟩
  have nb11 : M0.next ≤ b11 := by rw [← eb13]; exact X10.next
  have drbb11 : rb ≠ b11 := by have := Mem.lt_of_get g8; omega
  have db1b11 : b1 ≠ b11 := by have := Mem.lt_of_get g5; omega
  have g18 := E17.old g8
  have g19 := E17.old g5
  have X20 := X10.trans E17
  have hraw := r16N_raw rb bb o m c i v vn e M  b1 M2 b11 M12
  have hkp : ∀ id k, M.get id = some k → id ≠ rb → M12.get id = some k := fun id k g h_rb => by
    have g0 := Mem.lt_of_get g
    have g := E6.old g
    have g := E17.old g
    exact g
  obtain ⟨T1, h1, h2⟩ := Rd.told noNumP mixedP (specs_none Try.prog) (fun _ _ => rfl) hraw (hk (lC dC24 grb rfl) (hk (bT cc0) (hk (lC dC24 grb rfl) (hk (q_inb (by omega) (by simp at cc0; omega)) (hk (q_ld (aload_ext X0 hld0)) (hk (bT cc1) (hk (q_eq (by rw [← eb3, ← em4]; kernel_rfl) Nat.one_ne_zero) (hk (q_app (by rw [← eb13, ← em14]; exact append_nil (w := 1) (by kernel_rfl) (by kernel_rfl) (y := 8) (by kernel_rfl) (by decide) (by decide) g5 rfl rfl rfl) Nat.one_ne_zero) hn))))))))
  exact ⟨T1, M12, b11, h1, h2, X20, hM16, g18, nb11, g15, hkp⟩
theorem r16G_raw (rb bb o m c i : Nat) (v : Int) (vn : Value) (e : E4) (r k : Nat) (cr : List Value) (M : Mem) (b1 : Nat) (M2 : Mem) (b14 : Nat) (M15 : Mem) : oR Try.prog [] 51 Try.f21 (q21.loopAt 0) [(0, (pt rb 0)), (1, (i64 v)), (5, (sli r 0 k k)), (6, (i64 (((i : Nat) : Int))))] M [ttL 11 (sli bb o m c), ttT 16, ttL 26 (sli bb o m c), ttT 30, ttL 34 (i64 e.f), ttT 39, ttV 45 (sli b1 0 1 2) M2, .at 47 (2, .val (sli b14 0 (k + 1) (k + 1)), M15)] [0, 1, 5, 6] = some (.normal, [some (pt rb 0), some (i64 v), some (sli b14 0 (k + 1) (k + 1)), some (i64 (IntKind.wrap .i64 ((((i : Nat) : Int)) + (1 : Int))))], M15, [qL 24 rb 1 M (sli bb o m c), qT (decide ((((i : Nat) : Int)) < (((m : Nat) : Int)))), qL 24 rb 1 M (sli bb o m c), .q (.inb (((i : Nat) : Int)) m) (ansB true), qL 3 bb (o + (((i : Nat) : Int) : Int).toNat * 4) M (i64 e.f), qT (e.f == v), .eq (abuildSlice Try.prog 22 1 [(0, (i64 (((i : Nat) : Int))))] M) (1, .val (sli b1 0 1 2), M2), .q (.append [22, 22] (sli r 0 k k) (sli b1 0 1 2) M2) (2, .val (sli b14 0 (k + 1) (k + 1)), M15)]) := by kernel_rfl
theorem r16G (rb bb o m c i : Nat) (v : Int) (vn : Value) (e : E4) (r k : Nat) (cr : List Value) {M M0 : Mem} (hM : MemOk M) (X0 : Ext M0 M) (grb : M.get rb = some ⟨[vn, (sli bb o m c)], 59, 2, 0, true⟩) (hr : M0.next ≤ r) (gr : M.get r = some ⟨cr, 3, 1, 0, true⟩) (hbr : rb ≠ r) (cc0 : (decide ((((i : Nat) : Int)) < (((m : Nat) : Int)))) = true) (cc1 : (e.f == v) = true) (hld0 : aload Try.prog 3 ⟨bb, o + (((i : Nat) : Int) : Int).toNat * 4, none⟩ M0 = some (i64 e.f)) (hg1 : k < 1073741824 ∧ (cr).length = k * 1) : ∃ T1 M' b14, Rd Try.prog [] (q21.loopAt 0) Try.f21.ntmps (fr [(0, (pt rb 0)), (1, (i64 v)), (5, (sli r 0 k k)), (6, (i64 (((i : Nat) : Int))))]) M .normal T1 M' ∧ [0, 1, 5, 6].map T1.get = [some (pt rb 0), some (i64 v), some (sli b14 0 (k + 1) (k + 1)), some (i64 (IntKind.wrap .i64 ((((i : Nat) : Int)) + (1 : Int))))] ∧ Ext M0 M' ∧ MemOk M' ∧ M'.get rb = some ⟨[vn, (sli bb o m c)], 59, 2, 0, true⟩ ∧ M0.next ≤ b14 ∧ M'.get b14 = some ⟨cr ++ [(i64 (((i : Nat) : Int)))], 3, 1, 0, true⟩ ∧ ∀ id k, M.get id = some k → id ≠ rb → id ≠ r → M'.get id = some k := by
  obtain ⟨b1, M2, eb3, em4, g5, E6, hM7⟩ := new_t hM ⟨[(i64 (((i : Nat) : Int)))], 3, 1, 0, true⟩
  have nb1 : M0.next ≤ b1 := by rw [← eb3]; exact X0.next
  have drbb1 : rb ≠ b1 := by have := Mem.lt_of_get grb; omega
  have drb1 : r ≠ b1 := by have := Mem.lt_of_get gr; omega
  have g8 := E6.old grb
  have g9 := E6.old gr
  have nx10 := E6.next
  have X11 := X0.trans E6
  obtain ⟨b14, M15, eb16, em17, g18, X13, hM19, kp12⟩ := grow_t X11 hr hM7 ⟨cr ++ [(i64 (((i : Nat) : Int)))], 3, 1, 0, true⟩
  have nb14 : M0.next ≤ b14 := by rw [← eb16]; exact X11.next
  have drbb14 : rb ≠ b14 := by have := Mem.lt_of_get g8; omega
  have drb14 : r ≠ b14 := by have := Mem.lt_of_get g9; omega
  have db1b14 : b1 ≠ b14 := by have := Mem.lt_of_get g5; omega
  have g20 := (kp12 _ hbr (Mem.lt_of_get g8)).trans g8
  have g21 := (kp12 _ (Ne.symm drb1) (Mem.lt_of_get g5)).trans g5
  have hraw := r16G_raw rb bb o m c i v vn e r k cr M  b1 M2 b14 M15
  have hkp : ∀ id k, M.get id = some k → id ≠ rb → id ≠ r → M15.get id = some k := fun id k g h_rb h_r => by
    have g0 := Mem.lt_of_get g
    have g := E6.old g
    have g := (kp12 id h_r (Mem.lt_of_get g)).trans g
    exact g
  obtain ⟨T1, h1, h2⟩ := Rd.told noNumP mixedP (specs_none Try.prog) (fun _ _ => rfl) hraw (hk (lC dC24 grb rfl) (hk (bT cc0) (hk (lC dC24 grb rfl) (hk (q_inb (by omega) (by simp at cc0; omega)) (hk (q_ld (aload_ext X0 hld0)) (hk (bT cc1) (hk (q_eq (by rw [← eb3, ← em4]; kernel_rfl) Nat.one_ne_zero) (hk (q_app (by rw [← eb16, ← em17]; exact append_more (w := 1) (by kernel_rfl) (by kernel_rfl) (by kernel_rfl) (y := 8) (by kernel_rfl) (by decide) (by decide) hg1.1 g5 rfl rfl rfl g9 hg1.2 rfl rfl rfl rfl) (Nat.succ_ne_zero _)) hn))))))))
  exact ⟨T1, M15, b14, h1, h2, X13, hM19, g20, nb14, g18, hkp⟩
theorem r16x_rawE (rb : Nat) (a : Option Addr) (m c i : Nat) (v : Int) (S vn : Value) (M : Mem)  : oR Try.prog [] 51 Try.f21 (q21.loopAt 0) [(0, (pt rb 0)), (1, (i64 v)), (5, S), (6, (i64 (((i : Nat) : Int))))] M [ttL 11 (.slice a m c), ttT 13, ttF 16] [5] = some ((.exit 0), [some S], M, [qL 24 rb 1 M (.slice a m c), .ln a m c, qF (decide ((((i : Nat) : Int)) < (((m : Nat) : Int))))]) := by kernel_rfl
theorem r16xE (rb : Nat) (a : Option Addr) (m c i : Nat) (v : Int) (S vn : Value) {M : Mem} (grb : M.get rb = some ⟨[vn, (.slice a m c)], 59, 2, 0, true⟩) (hln : a.isNone = true → m = 0 ∧ c = 0) (cc0 : (decide ((((i : Nat) : Int)) < (((m : Nat) : Int)))) = false) : ∃ T1, Rd Try.prog [] (q21.loopAt 0) Try.f21.ntmps (fr [(0, (pt rb 0)), (1, (i64 v)), (5, S), (6, (i64 (((i : Nat) : Int))))]) M (.exit 0) T1 M ∧ [5].map T1.get = [some S] := by
  have hraw := r16x_rawE rb a m c i v S vn M  
  obtain ⟨T1, h1, h2⟩ := Rd.told noNumP mixedP (specs_none Try.prog) (fun _ _ => rfl) hraw (hk (lC dC24 grb rfl) (hk (lN hln) (hk (bF cc0) hn)))
  exact ⟨T1, h1, h2⟩
theorem loop16E {rb n : Nat} {a : Option Addr} {c : Nat} {v : Int} {l : List E4} {M : Mem} (hM : MemOk M) (grb : M.get rb = some ⟨[i64 ((n : Nat) : Int), .slice a l.length c], 59, 2, 0, true⟩) (hs : pEdges l (.slice a l.length c) M) (hl : l.length ≤ 400) :
    ∃ S M', LoopR Try.prog [] (q21.loopAt 0) Try.f21.ntmps (fr [(0, pt rb 0), (1, i64 v), (5, sln), (6, i64 ((0 : Nat) : Int))]) M (.exit 0) (fr [(5, S)]) M' ∧ Ext M M' ∧ MemOk M' ∧ AccI M M' S (refRow .fr l v l.length) := by
  have hb := Mem.lt_of_get grb
  obtain ⟨S, M', h1, h2, h3, _, h4⟩ := LoopR.for (P := Try.prog) (GL := []) (b := q21.loopAt 0) (nt := Try.f21.ntmps) (id := 0) (σ := Value) (n := l.length) (Inv := fun i S M1 => Ext M M1 ∧ MemOk M1 ∧ M1.get rb = some ⟨[i64 ((n : Nat) : Int), .slice a l.length c], 59, 2, 0, true⟩ ∧ AccI M M1 S (refRow .fr l v i))
    (F := fun i S => [(0, pt rb 0), (1, i64 v), (5, S), (6, i64 ((i : Nat) : Int))])
    (O := fun S => [(5, S)])
    (by
      rintro i S M1 hi ⟨X1, hM1, hg1, hA⟩
      obtain ⟨bb, o, rfl, _⟩ := form_pos hs (by omega)
      have ht : l[i]? = some l[i] := List.getElem?_eq_getElem hi
      have hld : aload Try.prog 3 ⟨bb, o + (((i : Nat) : Int) : Int).toNat * 4, none⟩ M = some (i64 l[i].f) := ld_cell (P := Try.prog) (j := 0) hs ht rfl dC3
      rw [refRow_succ .fr v ht]
      have hlen := refRow_len .fr l v i
      by_cases hv : l[i].f = v
      · rw [if_pos (show tellE .fr l[i] = v from hv)]
        rcases hA with ⟨rfl, h0⟩ | ⟨r, rfl, h0, hr, hg⟩
        · obtain ⟨T1, M2, b2, h1, h2, h3, h4, h5, h6, h7, _⟩ := r16N rb bb o l.length c i v _ l[i] hM1 X1 hg1 (decide_eq_true (by omega)) (by simp [hv]) hld
          rw [wrap_succ (by omega)] at h2
          exact ⟨_, T1, M2, h1, h2, h3, h4, h5, .inr ⟨b2, by rw [h0]; rfl, by simp, h6, by rw [h7, h0]; rfl⟩⟩
        · obtain ⟨T1, M2, b2, h1, h2, h3, h4, h5, h6, h7, _⟩ := r16G rb bb o l.length c i v _ l[i] r (refRow .fr l v i).length _ hM1 X1 hg1 hr hg (by omega) (decide_eq_true (by omega)) (by simp [hv]) hld ⟨by omega, by simp⟩
          rw [wrap_succ (by omega)] at h2
          exact ⟨_, T1, M2, h1, h2, h3, h4, h5, .inr ⟨b2, by rw [List.length_append]; rfl, by simp, h6, by rw [h7, List.map_append]; rfl⟩⟩
      · rw [if_neg (show ¬ tellE .fr l[i] = v from hv), List.append_nil]
        obtain ⟨T1, h1, h2⟩ := r16L rb bb o l.length c i v S _ l[i] X1 hg1 (decide_eq_true (by omega)) (by simp [hv]) hld
        rw [wrap_succ (by omega)] at h2
        exact ⟨S, T1, M1, h1, h2, X1, hM1, hg1, hA⟩)
    (by
      rintro S M1 ⟨X1, hM1, hg1, _⟩
      exact r16xE rb a l.length c l.length v S _ hg1 hs.ln (decide_eq_false (by omega)))
    l.length 0 (by omega) (s := sln) (M := M) ⟨Ext.refl M, hM, grb, .inl ⟨rfl, rfl⟩⟩
  exact ⟨S, M', h1, h2, h3, h4⟩
theorem rK21 : Try.f21.results = #[.tmp 4] := by kernel_rfl
theorem w16_rawE (rb n : Nat) (al : Option Addr) (cl : Nat) (l : List E4) (v : Int) (M : Mem) (S1 : Value) (M3 : Mem) : oT Try.prog [0] 60 Try.f21 q21 [(pt rb 0), (i64 v)] M [.blk 6 [0, 1, 5, 6] .normal (fr [(5, S1)]) M3] 4 = some (.ret, some S1, M3, [.blk 0 (.loop (q21.loopAt 0)) Try.f21.ntmps [0, 1, 5, 6] [some (pt rb 0), some (i64 v), some sln, some (i64 0)] M .normal (fr [(5, S1)]) M3]) := by kernel_rfl
theorem w16E (rb n : Nat) (al : Option Addr) (cl : Nat) (l : List E4) (v : Int) {M : Mem} (hM : MemOk M) (grb : M.get rb = some ⟨[i64 ((n : Nat) : Int), .slice al l.length cl], 59, 2, 0, true⟩) (hl : pEdges l (.slice al l.length cl) M) (hl400 : l.length ≤ 400) : ∃ v_ M', Ev Try.prog [] 21 [(pt rb 0), (i64 v)] M v_ M' ∧ Ext M M' ∧ MemOk M' ∧ newR pInts (refRow .fr l v l.length) M.next v_ M' := by
  obtain ⟨S1, M3, hL4, E5, hM6, A2⟩ := loop16E hM grb (AP.Ext (R := pEdges) hl (Ext.refl M)) hl400
  have nx7 := E5.next
  have g8 := E5.old grb
  have X9 := (Ext.refl M).trans E5
  have hraw := w16_rawE rb n al cl l v M  S1 M3
  exact ⟨S1, M3, Ev.told_tmp noNumP mixedP Try.func21 q21_ok (by kernel_rfl) rK21 (fun B => specsB_ok (l := []) (fun p hp => by cases hp) (k := [(0, bone (.loop (q21.loopAt 0)) Try.f21.ntmps [0, 1, 5, 6] [some (pt rb 0), some (i64 v), some sln, some (i64 0)] M .normal (fr [(5, S1)]) M3)]) (fun p hp => by simp only [List.mem_cons, List.not_mem_nil, or_false] at hp; rcases hp with rfl <;> first | exact BlkOk.loop noNumP mixedP hL4)) (fun _ h => blksF_one h) hraw (hk (q_blk rfl) hn), X9, hM6, AccI.new A2 (Nat.le_trans (refRow_len .fr l v l.length) (by omega)) (Nat.le_refl _)⟩
abbrev Q21 := FC (asP (as2 (pRefA 59) pI) fun x => x.1.2.length ≤ 400) (newR pInts) (fun x => refRow .fr x.1.2 x.2 x.1.2.length)
theorem con21 {x : (Nat × List E4) × Int} {lv : List Value} {M : Mem} (hM : MemOk M) (h : (asP (as2 (pRefA 59) pI) fun x : (Nat × List E4) × Int => x.1.2.length ≤ 400) x lv M) : ∃ v M', Con Try.prog [] 21 Q21 lv M v M' := by
  refine FC.con h ?_
  obtain ⟨⟨g0, g1, rfl, k0, k1⟩, hl4⟩ := h
  obtain ⟨⟨n, l⟩, v⟩ := x
  obtain rfl := k1
  obtain ⟨rb, L, rfl, grb, hl⟩ := k0
  obtain ⟨a, c, rfl⟩ := GRowsAt.form hl
  obtain ⟨v', M', h1, h2, _, h3⟩ := w16E rb n a c l v hM grb hl hl4
  exact ⟨v', M', h1, h2, h3⟩
theorem r17L_raw (rb bb o m c i : Nat) (v : Int) (S vn : Value) (e : E4) (M : Mem)  : oR Try.prog [] 51 Try.f22 (q22.loopAt 0) [(0, (pt rb 0)), (1, (i64 v)), (5, S), (6, (i64 (((i : Nat) : Int))))] M [ttL 11 (sli bb o m c), ttT 16, ttL 26 (sli bb o m c), ttT 30, ttL 34 (i64 e.t), ttF 39] [0, 1, 5, 6] = some (.normal, [some (pt rb 0), some (i64 v), some S, some (i64 (IntKind.wrap .i64 ((((i : Nat) : Int)) + (1 : Int))))], M, [qL 24 rb 1 M (sli bb o m c), qT (decide ((((i : Nat) : Int)) < (((m : Nat) : Int)))), qL 24 rb 1 M (sli bb o m c), .q (.inb (((i : Nat) : Int)) m) (ansB true), qL 3 bb (o + (((i : Nat) : Int) : Int).toNat * 4 + 1) M (i64 e.t), qF (e.t == v)]) := by kernel_rfl
theorem r17L (rb bb o m c i : Nat) (v : Int) (S vn : Value) (e : E4) {M : Mem} {M0 : Mem} (X0 : Ext M0 M) (grb : M.get rb = some ⟨[vn, (sli bb o m c)], 59, 2, 0, true⟩) (cc0 : (decide ((((i : Nat) : Int)) < (((m : Nat) : Int)))) = true) (cc1 : (e.t == v) = false) (hld0 : aload Try.prog 3 ⟨bb, o + (((i : Nat) : Int) : Int).toNat * 4 + 1, none⟩ M0 = some (i64 e.t)) : ∃ T1, Rd Try.prog [] (q22.loopAt 0) Try.f22.ntmps (fr [(0, (pt rb 0)), (1, (i64 v)), (5, S), (6, (i64 (((i : Nat) : Int))))]) M .normal T1 M ∧ [0, 1, 5, 6].map T1.get = [some (pt rb 0), some (i64 v), some S, some (i64 (IntKind.wrap .i64 ((((i : Nat) : Int)) + (1 : Int))))] := by
  have hraw := r17L_raw rb bb o m c i v S vn e M  
  obtain ⟨T1, h1, h2⟩ := Rd.told noNumP mixedP (specs_none Try.prog) (fun _ _ => rfl) hraw (hk (lC dC24 grb rfl) (hk (bT cc0) (hk (lC dC24 grb rfl) (hk (q_inb (by omega) (by simp at cc0; omega)) (hk (q_ld (aload_ext X0 hld0)) (hk (bF cc1) hn))))))
  exact ⟨T1, h1, h2⟩
theorem r17N_raw (rb bb o m c i : Nat) (v : Int) (vn : Value) (e : E4) (M : Mem) (b1 : Nat) (M2 : Mem) (b11 : Nat) (M12 : Mem) : oR Try.prog [] 51 Try.f22 (q22.loopAt 0) [(0, (pt rb 0)), (1, (i64 v)), (5, sln), (6, (i64 (((i : Nat) : Int))))] M [ttL 11 (sli bb o m c), ttT 16, ttL 26 (sli bb o m c), ttT 30, ttL 34 (i64 e.t), ttT 39, ttV 45 (sli b1 0 1 2) M2, .at 47 (1, .val (sli b11 0 1 1), M12)] [0, 1, 5, 6] = some (.normal, [some (pt rb 0), some (i64 v), some (sli b11 0 1 1), some (i64 (IntKind.wrap .i64 ((((i : Nat) : Int)) + (1 : Int))))], M12, [qL 24 rb 1 M (sli bb o m c), qT (decide ((((i : Nat) : Int)) < (((m : Nat) : Int)))), qL 24 rb 1 M (sli bb o m c), .q (.inb (((i : Nat) : Int)) m) (ansB true), qL 3 bb (o + (((i : Nat) : Int) : Int).toNat * 4 + 1) M (i64 e.t), qT (e.t == v), .eq (abuildSlice Try.prog 22 1 [(0, (i64 (((i : Nat) : Int))))] M) (1, .val (sli b1 0 1 2), M2), .q (.append [22, 22] sln (sli b1 0 1 2) M2) (1, .val (sli b11 0 1 1), M12)]) := by kernel_rfl
theorem r17N (rb bb o m c i : Nat) (v : Int) (vn : Value) (e : E4) {M M0 : Mem} (hM : MemOk M) (X0 : Ext M0 M) (grb : M.get rb = some ⟨[vn, (sli bb o m c)], 59, 2, 0, true⟩) (cc0 : (decide ((((i : Nat) : Int)) < (((m : Nat) : Int)))) = true) (cc1 : (e.t == v) = true) (hld0 : aload Try.prog 3 ⟨bb, o + (((i : Nat) : Int) : Int).toNat * 4 + 1, none⟩ M0 = some (i64 e.t)) : ∃ T1 M' b11, Rd Try.prog [] (q22.loopAt 0) Try.f22.ntmps (fr [(0, (pt rb 0)), (1, (i64 v)), (5, sln), (6, (i64 (((i : Nat) : Int))))]) M .normal T1 M' ∧ [0, 1, 5, 6].map T1.get = [some (pt rb 0), some (i64 v), some (sli b11 0 1 1), some (i64 (IntKind.wrap .i64 ((((i : Nat) : Int)) + (1 : Int))))] ∧ Ext M0 M' ∧ MemOk M' ∧ M'.get rb = some ⟨[vn, (sli bb o m c)], 59, 2, 0, true⟩ ∧ M0.next ≤ b11 ∧ M'.get b11 = some ⟨[(i64 (((i : Nat) : Int)))], 3, 1, 0, true⟩ ∧ ∀ id k, M.get id = some k → id ≠ rb → M'.get id = some k := by
  obtain ⟨b1, M2, eb3, em4, g5, E6, hM7⟩ := new_t hM ⟨[(i64 (((i : Nat) : Int)))], 3, 1, 0, true⟩
  have nb1 : M0.next ≤ b1 := by rw [← eb3]; exact X0.next
  have drbb1 : rb ≠ b1 := by have := Mem.lt_of_get grb; omega
  have g8 := E6.old grb
  have nx9 := E6.next
  have X10 := X0.trans E6
  obtain ⟨b11, M12, eb13, em14, g15, E17, hM16⟩ := new_t hM7 ⟨[(i64 (((i : Nat) : Int)))], 3, 1, 0, true⟩
  have nb11 : M0.next ≤ b11 := by rw [← eb13]; exact X10.next
  have drbb11 : rb ≠ b11 := by have := Mem.lt_of_get g8; omega
  have db1b11 : b1 ≠ b11 := by have := Mem.lt_of_get g5; omega
  have g18 := E17.old g8
  have g19 := E17.old g5
  have X20 := X10.trans E17
  have hraw := r17N_raw rb bb o m c i v vn e M  b1 M2 b11 M12
  have hkp : ∀ id k, M.get id = some k → id ≠ rb → M12.get id = some k := fun id k g h_rb => by
    have g0 := Mem.lt_of_get g
    have g := E6.old g
    have g := E17.old g
    exact g
  obtain ⟨T1, h1, h2⟩ := Rd.told noNumP mixedP (specs_none Try.prog) (fun _ _ => rfl) hraw (hk (lC dC24 grb rfl) (hk (bT cc0) (hk (lC dC24 grb rfl) (hk (q_inb (by omega) (by simp at cc0; omega)) (hk (q_ld (aload_ext X0 hld0)) (hk (bT cc1) (hk (q_eq (by rw [← eb3, ← em4]; kernel_rfl) Nat.one_ne_zero) (hk (q_app (by rw [← eb13, ← em14]; exact append_nil (w := 1) (by kernel_rfl) (by kernel_rfl) (y := 8) (by kernel_rfl) (by decide) (by decide) g5 rfl rfl rfl) Nat.one_ne_zero) hn))))))))
  exact ⟨T1, M12, b11, h1, h2, X20, hM16, g18, nb11, g15, hkp⟩
theorem r17G_raw (rb bb o m c i : Nat) (v : Int) (vn : Value) (e : E4) (r k : Nat) (cr : List Value) (M : Mem) (b1 : Nat) (M2 : Mem) (b14 : Nat) (M15 : Mem) : oR Try.prog [] 51 Try.f22 (q22.loopAt 0) [(0, (pt rb 0)), (1, (i64 v)), (5, (sli r 0 k k)), (6, (i64 (((i : Nat) : Int))))] M [ttL 11 (sli bb o m c), ttT 16, ttL 26 (sli bb o m c), ttT 30, ttL 34 (i64 e.t), ttT 39, ttV 45 (sli b1 0 1 2) M2, .at 47 (2, .val (sli b14 0 (k + 1) (k + 1)), M15)] [0, 1, 5, 6] = some (.normal, [some (pt rb 0), some (i64 v), some (sli b14 0 (k + 1) (k + 1)), some (i64 (IntKind.wrap .i64 ((((i : Nat) : Int)) + (1 : Int))))], M15, [qL 24 rb 1 M (sli bb o m c), qT (decide ((((i : Nat) : Int)) < (((m : Nat) : Int)))), qL 24 rb 1 M (sli bb o m c), .q (.inb (((i : Nat) : Int)) m) (ansB true), qL 3 bb (o + (((i : Nat) : Int) : Int).toNat * 4 + 1) M (i64 e.t), qT (e.t == v), .eq (abuildSlice Try.prog 22 1 [(0, (i64 (((i : Nat) : Int))))] M) (1, .val (sli b1 0 1 2), M2), .q (.append [22, 22] (sli r 0 k k) (sli b1 0 1 2) M2) (2, .val (sli b14 0 (k + 1) (k + 1)), M15)]) := by kernel_rfl
theorem r17G (rb bb o m c i : Nat) (v : Int) (vn : Value) (e : E4) (r k : Nat) (cr : List Value) {M M0 : Mem} (hM : MemOk M) (X0 : Ext M0 M) (grb : M.get rb = some ⟨[vn, (sli bb o m c)], 59, 2, 0, true⟩) (hr : M0.next ≤ r) (gr : M.get r = some ⟨cr, 3, 1, 0, true⟩) (hbr : rb ≠ r) (cc0 : (decide ((((i : Nat) : Int)) < (((m : Nat) : Int)))) = true) (cc1 : (e.t == v) = true) (hld0 : aload Try.prog 3 ⟨bb, o + (((i : Nat) : Int) : Int).toNat * 4 + 1, none⟩ M0 = some (i64 e.t)) (hg1 : k < 1073741824 ∧ (cr).length = k * 1) : ∃ T1 M' b14, Rd Try.prog [] (q22.loopAt 0) Try.f22.ntmps (fr [(0, (pt rb 0)), (1, (i64 v)), (5, (sli r 0 k k)), (6, (i64 (((i : Nat) : Int))))]) M .normal T1 M' ∧ [0, 1, 5, 6].map T1.get = [some (pt rb 0), some (i64 v), some (sli b14 0 (k + 1) (k + 1)), some (i64 (IntKind.wrap .i64 ((((i : Nat) : Int)) + (1 : Int))))] ∧ Ext M0 M' ∧ MemOk M' ∧ M'.get rb = some ⟨[vn, (sli bb o m c)], 59, 2, 0, true⟩ ∧ M0.next ≤ b14 ∧ M'.get b14 = some ⟨cr ++ [(i64 (((i : Nat) : Int)))], 3, 1, 0, true⟩ ∧ ∀ id k, M.get id = some k → id ≠ rb → id ≠ r → M'.get id = some k := by
  obtain ⟨b1, M2, eb3, em4, g5, E6, hM7⟩ := new_t hM ⟨[(i64 (((i : Nat) : Int)))], 3, 1, 0, true⟩
  have nb1 : M0.next ≤ b1 := by rw [← eb3]; exact X0.next
  have drbb1 : rb ≠ b1 := by have := Mem.lt_of_get grb; omega
  have drb1 : r ≠ b1 := by have := Mem.lt_of_get gr; omega
  have g8 := E6.old grb
  have g9 := E6.old gr
  have nx10 := E6.next
  have X11 := X0.trans E6
  obtain ⟨b14, M15, eb16, em17, g18, X13, hM19, kp12⟩ := grow_t X11 hr hM7 ⟨cr ++ [(i64 (((i : Nat) : Int)))], 3, 1, 0, true⟩
  have nb14 : M0.next ≤ b14 := by rw [← eb16]; exact X11.next
  have drbb14 : rb ≠ b14 := by have := Mem.lt_of_get g8; omega
  have drb14 : r ≠ b14 := by have := Mem.lt_of_get g9; omega
  have db1b14 : b1 ≠ b14 := by have := Mem.lt_of_get g5; omega
  have g20 := (kp12 _ hbr (Mem.lt_of_get g8)).trans g8
  have g21 := (kp12 _ (Ne.symm drb1) (Mem.lt_of_get g5)).trans g5
  have hraw := r17G_raw rb bb o m c i v vn e r k cr M  b1 M2 b14 M15
  have hkp : ∀ id k, M.get id = some k → id ≠ rb → id ≠ r → M15.get id = some k := fun id k g h_rb h_r => by
    have g0 := Mem.lt_of_get g
    have g := E6.old g
    have g := (kp12 id h_r (Mem.lt_of_get g)).trans g
    exact g
  obtain ⟨T1, h1, h2⟩ := Rd.told noNumP mixedP (specs_none Try.prog) (fun _ _ => rfl) hraw (hk (lC dC24 grb rfl) (hk (bT cc0) (hk (lC dC24 grb rfl) (hk (q_inb (by omega) (by simp at cc0; omega)) (hk (q_ld (aload_ext X0 hld0)) (hk (bT cc1) (hk (q_eq (by rw [← eb3, ← em4]; kernel_rfl) Nat.one_ne_zero) (hk (q_app (by rw [← eb16, ← em17]; exact append_more (w := 1) (by kernel_rfl) (by kernel_rfl) (by kernel_rfl) (y := 8) (by kernel_rfl) (by decide) (by decide) hg1.1 g5 rfl rfl rfl g9 hg1.2 rfl rfl rfl rfl) (Nat.succ_ne_zero _)) hn))))))))
  exact ⟨T1, M15, b14, h1, h2, X13, hM19, g20, nb14, g18, hkp⟩
theorem r17x_rawE (rb : Nat) (a : Option Addr) (m c i : Nat) (v : Int) (S vn : Value) (M : Mem)  : oR Try.prog [] 51 Try.f22 (q22.loopAt 0) [(0, (pt rb 0)), (1, (i64 v)), (5, S), (6, (i64 (((i : Nat) : Int))))] M [ttL 11 (.slice a m c), ttT 13, ttF 16] [5] = some ((.exit 0), [some S], M, [qL 24 rb 1 M (.slice a m c), .ln a m c, qF (decide ((((i : Nat) : Int)) < (((m : Nat) : Int))))]) := by kernel_rfl
theorem r17xE (rb : Nat) (a : Option Addr) (m c i : Nat) (v : Int) (S vn : Value) {M : Mem} (grb : M.get rb = some ⟨[vn, (.slice a m c)], 59, 2, 0, true⟩) (hln : a.isNone = true → m = 0 ∧ c = 0) (cc0 : (decide ((((i : Nat) : Int)) < (((m : Nat) : Int)))) = false) : ∃ T1, Rd Try.prog [] (q22.loopAt 0) Try.f22.ntmps (fr [(0, (pt rb 0)), (1, (i64 v)), (5, S), (6, (i64 (((i : Nat) : Int))))]) M (.exit 0) T1 M ∧ [5].map T1.get = [some S] := by
  have hraw := r17x_rawE rb a m c i v S vn M  
  obtain ⟨T1, h1, h2⟩ := Rd.told noNumP mixedP (specs_none Try.prog) (fun _ _ => rfl) hraw (hk (lC dC24 grb rfl) (hk (lN hln) (hk (bF cc0) hn)))
  exact ⟨T1, h1, h2⟩
theorem loop17E {rb n : Nat} {a : Option Addr} {c : Nat} {v : Int} {l : List E4} {M : Mem} (hM : MemOk M) (grb : M.get rb = some ⟨[i64 ((n : Nat) : Int), .slice a l.length c], 59, 2, 0, true⟩) (hs : pEdges l (.slice a l.length c) M) (hl : l.length ≤ 400) :
    ∃ S M', LoopR Try.prog [] (q22.loopAt 0) Try.f22.ntmps (fr [(0, pt rb 0), (1, i64 v), (5, sln), (6, i64 ((0 : Nat) : Int))]) M (.exit 0) (fr [(5, S)]) M' ∧ Ext M M' ∧ MemOk M' ∧ AccI M M' S (refRow .to l v l.length) := by
  have hb := Mem.lt_of_get grb
  obtain ⟨S, M', h1, h2, h3, _, h4⟩ := LoopR.for (P := Try.prog) (GL := []) (b := q22.loopAt 0) (nt := Try.f22.ntmps) (id := 0) (σ := Value) (n := l.length) (Inv := fun i S M1 => Ext M M1 ∧ MemOk M1 ∧ M1.get rb = some ⟨[i64 ((n : Nat) : Int), .slice a l.length c], 59, 2, 0, true⟩ ∧ AccI M M1 S (refRow .to l v i))
    (F := fun i S => [(0, pt rb 0), (1, i64 v), (5, S), (6, i64 ((i : Nat) : Int))])
    (O := fun S => [(5, S)])
    (by
      rintro i S M1 hi ⟨X1, hM1, hg1, hA⟩
      obtain ⟨bb, o, rfl, _⟩ := form_pos hs (by omega)
      have ht : l[i]? = some l[i] := List.getElem?_eq_getElem hi
      have hld : aload Try.prog 3 ⟨bb, o + (((i : Nat) : Int) : Int).toNat * 4 + 1, none⟩ M = some (i64 l[i].t) := ld_cell (P := Try.prog) (j := 1) hs ht rfl dC3
      rw [refRow_succ .to v ht]
      have hlen := refRow_len .to l v i
      by_cases hv : l[i].t = v
      · rw [if_pos (show tellE .to l[i] = v from hv)]
        rcases hA with ⟨rfl, h0⟩ | ⟨r, rfl, h0, hr, hg⟩
        · obtain ⟨T1, M2, b2, h1, h2, h3, h4, h5, h6, h7, _⟩ := r17N rb bb o l.length c i v _ l[i] hM1 X1 hg1 (decide_eq_true (by omega)) (by simp [hv]) hld
          rw [wrap_succ (by omega)] at h2
          exact ⟨_, T1, M2, h1, h2, h3, h4, h5, .inr ⟨b2, by rw [h0]; rfl, by simp, h6, by rw [h7, h0]; rfl⟩⟩
        · obtain ⟨T1, M2, b2, h1, h2, h3, h4, h5, h6, h7, _⟩ := r17G rb bb o l.length c i v _ l[i] r (refRow .to l v i).length _ hM1 X1 hg1 hr hg (by omega) (decide_eq_true (by omega)) (by simp [hv]) hld ⟨by omega, by simp⟩
          rw [wrap_succ (by omega)] at h2
          exact ⟨_, T1, M2, h1, h2, h3, h4, h5, .inr ⟨b2, by rw [List.length_append]; rfl, by simp, h6, by rw [h7, List.map_append]; rfl⟩⟩
      · rw [if_neg (show ¬ tellE .to l[i] = v from hv), List.append_nil]
        obtain ⟨T1, h1, h2⟩ := r17L rb bb o l.length c i v S _ l[i] X1 hg1 (decide_eq_true (by omega)) (by simp [hv]) hld
        rw [wrap_succ (by omega)] at h2
        exact ⟨S, T1, M1, h1, h2, X1, hM1, hg1, hA⟩)
    (by
      rintro S M1 ⟨X1, hM1, hg1, _⟩
      exact r17xE rb a l.length c l.length v S _ hg1 hs.ln (decide_eq_false (by omega)))
    l.length 0 (by omega) (s := sln) (M := M) ⟨Ext.refl M, hM, grb, .inl ⟨rfl, rfl⟩⟩
  exact ⟨S, M', h1, h2, h3, h4⟩
theorem rK22 : Try.f22.results = #[.tmp 4] := by kernel_rfl
theorem w17_raw (rb n : Nat) (al : Option Addr) (cl : Nat) (l : List E4) (v : Int) (M : Mem) (S1 : Value) (M3 : Mem) : oT Try.prog [0] 60 Try.f22 q22 [(pt rb 0), (i64 v)] M [.blk 6 [0, 1, 5, 6] .normal (fr [(5, S1)]) M3] 4 = some (.ret, some S1, M3, [.blk 0 (.loop (q22.loopAt 0)) Try.f22.ntmps [0, 1, 5, 6] [some (pt rb 0), some (i64 v), some sln, some (i64 0)] M .normal (fr [(5, S1)]) M3]) := by kernel_rfl
theorem w17 (rb n : Nat) (al : Option Addr) (cl : Nat) (l : List E4) (v : Int) {M : Mem} (hM : MemOk M) (grb : M.get rb = some ⟨[i64 ((n : Nat) : Int), .slice al l.length cl], 59, 2, 0, true⟩) (hl : pEdges l (.slice al l.length cl) M) (hl400 : l.length ≤ 400) : ∃ v_ M', Ev Try.prog [] 22 [(pt rb 0), (i64 v)] M v_ M' ∧ Ext M M' ∧ MemOk M' ∧ newR pInts (refRow .to l v l.length) M.next v_ M' := by
  obtain ⟨S1, M3, hL4, E5, hM6, A2⟩ := loop17E hM grb (AP.Ext (R := pEdges) hl (Ext.refl M)) hl400
  have nx7 := E5.next
  have g8 := E5.old grb
  have X9 := (Ext.refl M).trans E5
  have hraw := w17_raw rb n al cl l v M  S1 M3
  exact ⟨S1, M3, Ev.told_tmp noNumP mixedP Try.func22 q22_ok (by kernel_rfl) rK22 (fun B => specsB_ok (l := []) (fun p hp => by cases hp) (k := [(0, bone (.loop (q22.loopAt 0)) Try.f22.ntmps [0, 1, 5, 6] [some (pt rb 0), some (i64 v), some sln, some (i64 0)] M .normal (fr [(5, S1)]) M3)]) (fun p hp => by simp only [List.mem_cons, List.not_mem_nil, or_false] at hp; rcases hp with rfl <;> first | exact BlkOk.loop noNumP mixedP hL4)) (fun _ h => blksF_one h) hraw (hk (q_blk rfl) hn), X9, hM6, AccI.new A2 (Nat.le_trans (refRow_len .to l v l.length) (by omega)) (Nat.le_refl _)⟩
abbrev Q22 := FC (asP (as2 (pRefA 59) pI) fun x => x.1.2.length ≤ 400) (newR pInts) (fun x => refRow .to x.1.2 x.2 x.1.2.length)
theorem con22 {x : (Nat × List E4) × Int} {lv : List Value} {M : Mem} (hM : MemOk M) (h : (asP (as2 (pRefA 59) pI) fun x : (Nat × List E4) × Int => x.1.2.length ≤ 400) x lv M) : ∃ v M', Con Try.prog [] 22 Q22 lv M v M' := by
  refine FC.con h ?_
  obtain ⟨⟨g0, g1, rfl, k0, k1⟩, hl4⟩ := h
  obtain ⟨⟨n, l⟩, v⟩ := x
  obtain rfl := k1
  obtain ⟨rb, L, rfl, grb, hl⟩ := k0
  obtain ⟨a, c, rfl⟩ := GRowsAt.form hl
  obtain ⟨v', M', h1, h2, _, h3⟩ := w17 rb n a c l v hM grb hl hl4
  exact ⟨v', M', h1, h2, h3⟩
end Go.Proofs.Ytipnhelkganmdaa

open Go Go.Am Go.Proofs
namespace Go.Proofs.Ytipnhelkganmdaa
set_option maxRecDepth 100000
set_option linter.unusedVariables false
set_option linter.unusedSimpArgs false
theorem r22_0a_raw (rb bb o m c i : Nat) (v s : Int) (vn : Value) (ef et : Int) (M : Mem)  : oR Try.prog [] 51 Try.f23 (q23.loopAt 0) [(0, (pt rb 0)), (1, (i64 v)), (5, (i64 s)), (6, (i64 (((i : Nat) : Int))))] M [ttL 11 (sli bb o m c), ttT 16, ttL 26 (sli bb o m c), ttT 30, ttL 34 (i64 ef), ttT 41, ttT 43, ttT 45, ttT 47, ttT 49, ttT 51, ttT 53, ttT 55, ttT 57, ttT 59, ttT 61, ttT 64, ttL 77 (sli bb o m c), ttT 81, ttL 85 (i64 0)] [0, 1, 5, 6] = some (.normal, [some (pt rb 0), some (i64 v), some (i64 (orI s (1 : Int))), some (i64 (IntKind.wrap .i64 ((((i : Nat) : Int)) + (1 : Int))))], M, [qL 24 rb 1 M (sli bb o m c), qT (decide ((((i : Nat) : Int)) < (((m : Nat) : Int)))), qL 24 rb 1 M (sli bb o m c), .q (.inb (((i : Nat) : Int)) m) (ansB true), qL 3 bb (o + (((i : Nat) : Int) : Int).toNat * 4) M (i64 ef), qT (ef == v), qT (ef == v), qT (ef == v), qT (ef == v), qT (ef == v), qT (ef == v), qT (ef == v), qT (ef == v), qT (ef == v), qT (ef == v), qT (ef == v), qT (ef == v), qL 24 rb 1 M (sli bb o m c), .q (.inb (((i : Nat) : Int)) m) (ansB true), qL 3 bb (o + (((i : Nat) : Int) : Int).toNat * 4 + 2) M (i64 0)]) := by kernel_rfl
theorem r22_0a (rb bb o m c i : Nat) (v s : Int) (vn : Value) (ef et : Int) {M : Mem} {M0 : Mem} (X0 : Ext M0 M) (grb : M.get rb = some ⟨[vn, (sli bb o m c)], 59, 2, 0, true⟩) (cc0 : (decide ((((i : Nat) : Int)) < (((m : Nat) : Int)))) = true) (cc1 : (ef == v) = true) (hld0 : aload Try.prog 3 ⟨bb, o + (((i : Nat) : Int) : Int).toNat * 4, none⟩ M0 = some (i64 ef)) (hld1 : aload Try.prog 3 ⟨bb, o + (((i : Nat) : Int) : Int).toNat * 4 + 2, none⟩ M0 = some (i64 0)) : ∃ T1, Rd Try.prog [] (q23.loopAt 0) Try.f23.ntmps (fr [(0, (pt rb 0)), (1, (i64 v)), (5, (i64 s)), (6, (i64 (((i : Nat) : Int))))]) M .normal T1 M ∧ [0, 1, 5, 6].map T1.get = [some (pt rb 0), some (i64 v), some (i64 (orI s (1 : Int))), some (i64 (IntKind.wrap .i64 ((((i : Nat) : Int)) + (1 : Int))))] := by
  have hraw := r22_0a_raw rb bb o m c i v s vn ef et M  
  obtain ⟨T1, h1, h2⟩ := Rd.told noNumP mixedP (specs_none Try.prog) (fun _ _ => rfl) hraw (hk (lC dC24 grb rfl) (hk (bT cc0) (hk (lC dC24 grb rfl) (hk (q_inb (by omega) (by simp at cc0; omega)) (hk (q_ld (aload_ext X0 hld0)) (hk (bT cc1) (hk (bT cc1) (hk (bT cc1) (hk (bT cc1) (hk (bT cc1) (hk (bT cc1) (hk (bT cc1) (hk (bT cc1) (hk (bT cc1) (hk (bT cc1) (hk (bT cc1) (hk (bT cc1) (hk (lC dC24 grb rfl) (hk (q_inb (by omega) (by simp at cc0; omega)) (hk (q_ld (aload_ext X0 hld1)) hn))))))))))))))))))))
  exact ⟨T1, h1, h2⟩
theorem r22_0b_raw (rb bb o m c i : Nat) (v s : Int) (vn : Value) (ef et : Int) (M : Mem)  : oR Try.prog [] 51 Try.f23 (q23.loopAt 0) [(0, (pt rb 0)), (1, (i64 v)), (5, (i64 s)), (6, (i64 (((i : Nat) : Int))))] M [ttL 11 (sli bb o m c), ttT 16, ttL 26 (sli bb o m c), ttT 30, ttL 34 (i64 ef), ttF 41, ttF 43, ttF 45, ttF 47, ttF 49, ttL 50 (sli bb o m c), ttF 51, ttF 53, ttT 54, ttF 55, ttF 57, ttL 58 (i64 et), ttF 59, ttF 61, ttF 64, ttT 65, ttL 77 (sli bb o m c), ttT 81, ttL 85 (i64 0)] [0, 1, 5, 6] = some (.normal, [some (pt rb 0), some (i64 v), some (i64 (orI s (1 : Int))), some (i64 (IntKind.wrap .i64 ((((i : Nat) : Int)) + (1 : Int))))], M, [qL 24 rb 1 M (sli bb o m c), qT (decide ((((i : Nat) : Int)) < (((m : Nat) : Int)))), qL 24 rb 1 M (sli bb o m c), .q (.inb (((i : Nat) : Int)) m) (ansB true), qL 3 bb (o + (((i : Nat) : Int) : Int).toNat * 4) M (i64 ef), qF (ef == v), qF (ef == v), qF (ef == v), qF (ef == v), qF (ef == v), qL 24 rb 1 M (sli bb o m c), qF (ef == v), qF (ef == v), .q (.inb (((i : Nat) : Int)) m) (ansB true), qF (ef == v), qF (ef == v), qL 3 bb (o + (((i : Nat) : Int) : Int).toNat * 4 + 1) M (i64 et), qF (ef == v), qF (ef == v), qF (ef == v), qT (et == v), qL 24 rb 1 M (sli bb o m c), .q (.inb (((i : Nat) : Int)) m) (ansB true), qL 3 bb (o + (((i : Nat) : Int) : Int).toNat * 4 + 2) M (i64 0)]) := by kernel_rfl
theorem r22_0b (rb bb o m c i : Nat) (v s : Int) (vn : Value) (ef et : Int) {M : Mem} {M0 : Mem} (X0 : Ext M0 M) (grb : M.get rb = some ⟨[vn, (sli bb o m c)], 59, 2, 0, true⟩) (cc0 : (decide ((((i : Nat) : Int)) < (((m : Nat) : Int)))) = true) (cc1 : (ef == v) = false) (cc2 : (et == v) = true) (hld0 : aload Try.prog 3 ⟨bb, o + (((i : Nat) : Int) : Int).toNat * 4, none⟩ M0 = some (i64 ef)) (hld1 : aload Try.prog 3 ⟨bb, o + (((i : Nat) : Int) : Int).toNat * 4 + 1, none⟩ M0 = some (i64 et)) (hld2 : aload Try.prog 3 ⟨bb, o + (((i : Nat) : Int) : Int).toNat * 4 + 2, none⟩ M0 = some (i64 0)) : ∃ T1, Rd Try.prog [] (q23.loopAt 0) Try.f23.ntmps (fr [(0, (pt rb 0)), (1, (i64 v)), (5, (i64 s)), (6, (i64 (((i : Nat) : Int))))]) M .normal T1 M ∧ [0, 1, 5, 6].map T1.get = [some (pt rb 0), some (i64 v), some (i64 (orI s (1 : Int))), some (i64 (IntKind.wrap .i64 ((((i : Nat) : Int)) + (1 : Int))))] := by
  have hraw := r22_0b_raw rb bb o m c i v s vn ef et M  
  obtain ⟨T1, h1, h2⟩ := Rd.told noNumP mixedP (specs_none Try.prog) (fun _ _ => rfl) hraw (hk (lC dC24 grb rfl) (hk (bT cc0) (hk (lC dC24 grb rfl) (hk (q_inb (by omega) (by simp at cc0; omega)) (hk (q_ld (aload_ext X0 hld0)) (hk (bF cc1) (hk (bF cc1) (hk (bF cc1) (hk (bF cc1) (hk (bF cc1) (hk (lC dC24 grb rfl) (hk (bF cc1) (hk (bF cc1) (hk (q_inb (by omega) (by simp at cc0; omega)) (hk (bF cc1) (hk (bF cc1) (hk (q_ld (aload_ext X0 hld1)) (hk (bF cc1) (hk (bF cc1) (hk (bF cc1) (hk (bT cc2) (hk (lC dC24 grb rfl) (hk (q_inb (by omega) (by simp at cc0; omega)) (hk (q_ld (aload_ext X0 hld2)) hn))))))))))))))))))))))))
  exact ⟨T1, h1, h2⟩
theorem r22_0c_raw (rb bb o m c i : Nat) (v s : Int) (vn : Value) (ef et : Int) (M : Mem)  : oR Try.prog [] 51 Try.f23 (q23.loopAt 0) [(0, (pt rb 0)), (1, (i64 v)), (5, (i64 s)), (6, (i64 (((i : Nat) : Int))))] M [ttL 11 (sli bb o m c), ttT 16, ttL 26 (sli bb o m c), ttT 30, ttL 34 (i64 ef), ttF 41, ttF 43, ttF 45, ttF 47, ttF 49, ttL 50 (sli bb o m c), ttF 51, ttF 53, ttT 54, ttF 55, ttF 57, ttL 58 (i64 et), ttF 59, ttF 61, ttF 64, ttF 65] [0, 1, 5, 6] = some (.normal, [some (pt rb 0), some (i64 v), some (i64 s), some (i64 (IntKind.wrap .i64 ((((i : Nat) : Int)) + (1 : Int))))], M, [qL 24 rb 1 M (sli bb o m c), qT (decide ((((i : Nat) : Int)) < (((m : Nat) : Int)))), qL 24 rb 1 M (sli bb o m c), .q (.inb (((i : Nat) : Int)) m) (ansB true), qL 3 bb (o + (((i : Nat) : Int) : Int).toNat * 4) M (i64 ef), qF (ef == v), qF (ef == v), qF (ef == v), qF (ef == v), qF (ef == v), qL 24 rb 1 M (sli bb o m c), qF (ef == v), qF (ef == v), .q (.inb (((i : Nat) : Int)) m) (ansB true), qF (ef == v), qF (ef == v), qL 3 bb (o + (((i : Nat) : Int) : Int).toNat * 4 + 1) M (i64 et), qF (ef == v), qF (ef == v), qF (ef == v), qF (et == v)]) := by kernel_rfl
theorem r22_0c (rb bb o m c i : Nat) (v s : Int) (vn : Value) (ef et : Int) {M : Mem} {M0 : Mem} (X0 : Ext M0 M) (grb : M.get rb = some ⟨[vn, (sli bb o m c)], 59, 2, 0, true⟩) (cc0 : (decide ((((i : Nat) : Int)) < (((m : Nat) : Int)))) = true) (cc1 : (ef == v) = false) (cc2 : (et == v) = false) (hld0 : aload Try.prog 3 ⟨bb, o + (((i : Nat) : Int) : Int).toNat * 4, none⟩ M0 = some (i64 ef)) (hld1 : aload Try.prog 3 ⟨bb, o + (((i : Nat) : Int) : Int).toNat * 4 + 1, none⟩ M0 = some (i64 et)) : ∃ T1, Rd Try.prog [] (q23.loopAt 0) Try.f23.ntmps (fr [(0, (pt rb 0)), (1, (i64 v)), (5, (i64 s)), (6, (i64 (((i : Nat) : Int))))]) M .normal T1 M ∧ [0, 1, 5, 6].map T1.get = [some (pt rb 0), some (i64 v), some (i64 s), some (i64 (IntKind.wrap .i64 ((((i : Nat) : Int)) + (1 : Int))))] := by
  have hraw := r22_0c_raw rb bb o m c i v s vn ef et M  
  obtain ⟨T1, h1, h2⟩ := Rd.told noNumP mixedP (specs_none Try.prog) (fun _ _ => rfl) hraw (hk (lC dC24 grb rfl) (hk (bT cc0) (hk (lC dC24 grb rfl) (hk (q_inb (by omega) (by simp at cc0; omega)) (hk (q_ld (aload_ext X0 hld0)) (hk (bF cc1) (hk (bF cc1) (hk (bF cc1) (hk (bF cc1) (hk (bF cc1) (hk (lC dC24 grb rfl) (hk (bF cc1) (hk (bF cc1) (hk (q_inb (by omega) (by simp at cc0; omega)) (hk (bF cc1) (hk (bF cc1) (hk (q_ld (aload_ext X0 hld1)) (hk (bF cc1) (hk (bF cc1) (hk (bF cc1) (hk (bF cc2) hn)))))))))))))))))))))
  exact ⟨T1, h1, h2⟩
theorem r22_1a_raw (rb bb o m c i : Nat) (v s : Int) (vn : Value) (ef et : Int) (M : Mem)  : oR Try.prog [] 51 Try.f23 (q23.loopAt 0) [(0, (pt rb 0)), (1, (i64 v)), (5, (i64 s)), (6, (i64 (((i : Nat) : Int))))] M [ttL 11 (sli bb o m c), ttT 16, ttL 26 (sli bb o m c), ttT 30, ttL 34 (i64 ef), ttT 41, ttT 43, ttT 45, ttT 47, ttT 49, ttT 51, ttT 53, ttT 55, ttT 57, ttT 59, ttT 61, ttT 64, ttL 77 (sli bb o m c), ttT 81, ttL 85 (i64 1)] [0, 1, 5, 6] = some (.normal, [some (pt rb 0), some (i64 v), some (i64 (orI s (2 : Int))), some (i64 (IntKind.wrap .i64 ((((i : Nat) : Int)) + (1 : Int))))], M, [qL 24 rb 1 M (sli bb o m c), qT (decide ((((i : Nat) : Int)) < (((m : Nat) : Int)))), qL 24 rb 1 M (sli bb o m c), .q (.inb (((i : Nat) : Int)) m) (ansB true), qL 3 bb (o + (((i : Nat) : Int) : Int).toNat * 4) M (i64 ef), qT (ef == v), qT (ef == v), qT (ef == v), qT (ef == v), qT (ef == v), qT (ef == v), qT (ef == v), qT (ef == v), qT (ef == v), qT (ef == v), qT (ef == v), qT (ef == v), qL 24 rb 1 M (sli bb o m c), .q (.inb (((i : Nat) : Int)) m) (ansB true), qL 3 bb (o + (((i : Nat) : Int) : Int).toNat * 4 + 2) M (i64 1)]) := by kernel_rfl
theorem r22_1a (rb bb o m c i : Nat) (v s : Int) (vn : Value) (ef et : Int) {M : Mem} {M0 : Mem} (X0 : Ext M0 M) (grb : M.get rb = some ⟨[vn, (sli bb o m c)], 59, 2, 0, true⟩) (cc0 : (decide ((((i : Nat) : Int)) < (((m : Nat) : Int)))) = true) (cc1 : (ef == v) = true) (hld0 : aload Try.prog 3 ⟨bb, o + (((i : Nat) : Int) : Int).toNat * 4, none⟩ M0 = some (i64 ef)) (hld1 : aload Try.prog 3 ⟨bb, o + (((i : Nat) : Int) : Int).toNat * 4 + 2, none⟩ M0 = some (i64 1)) : ∃ T1, Rd Try.prog [] (q23.loopAt 0) Try.f23.ntmps (fr [(0, (pt rb 0)), (1, (i64 v)), (5, (i64 s)), (6, (i64 (((i : Nat) : Int))))]) M .normal T1 M ∧ [0, 1, 5, 6].map T1.get = [some (pt rb 0), some (i64 v), some (i64 (orI s (2 : Int))), some (i64 (IntKind.wrap .i64 ((((i : Nat) : Int)) + (1 : Int))))] := by
  have hraw := r22_1a_raw rb bb o m c i v s vn ef et M  
  obtain ⟨T1, h1, h2⟩ := Rd.told noNumP mixedP (specs_none Try.prog) (fun _ _ => rfl) hraw (hk (lC dC24 grb rfl) (hk (bT cc0) (hk (lC dC24 grb rfl) (hk (q_inb (by omega) (by simp at cc0; omega)) (hk (q_ld (aload_ext X0 hld0)) (hk (bT cc1) (hk (bT cc1) (hk (bT cc1) (hk (bT cc1) (hk (bT cc1) (hk (bT cc1) (hk (bT cc1) (hk (bT cc1) (hk (bT cc1) (hk (bT cc1) (hk (bT cc1) (hk (bT cc1) (hk (lC dC24 grb rfl) (hk (q_inb (by omega) (by simp at cc0; omega)) (hk (q_ld (aload_ext X0 hld1)) hn))))))))))))))))))))
  exact ⟨T1, h1, h2⟩
theorem r22_1b_raw (rb bb o m c i : Nat) (v s : Int) (vn : Value) (ef et : Int) (M : Mem)  : oR Try.prog [] 51 Try.f23 (q23.loopAt 0) [(0, (pt rb 0)), (1, (i64 v)), (5, (i64 s)), (6, (i64 (((i : Nat) : Int))))] M [ttL 11 (sli bb o m c), ttT 16, ttL 26 (sli bb o m c), ttT 30, ttL 34 (i64 ef), ttF 41, ttF 43, ttF 45, ttF 47, ttF 49, ttL 50 (sli bb o m c), ttF 51, ttF 53, ttT 54, ttF 55, ttF 57, ttL 58 (i64 et), ttF 59, ttF 61, ttF 64, ttT 65, ttL 77 (sli bb o m c), ttT 81, ttL 85 (i64 1)] [0, 1, 5, 6] = some (.normal, [some (pt rb 0), some (i64 v), some (i64 (orI s (2 : Int))), some (i64 (IntKind.wrap .i64 ((((i : Nat) : Int)) + (1 : Int))))], M, [qL 24 rb 1 M (sli bb o m c), qT (decide ((((i : Nat) : Int)) < (((m : Nat) : Int)))), qL 24 rb 1 M (sli bb o m c), .q (.inb (((i : Nat) : Int)) m) (ansB true), qL 3 bb (o + (((i : Nat) : Int) : Int).toNat * 4) M (i64 ef), qF (ef == v), qF (ef == v), qF (ef == v), qF (ef == v), qF (ef == v), qL 24 rb 1 M (sli bb o m c), qF (ef == v), qF (ef == v), .q (.inb (((i : Nat) : Int)) m) (ansB true), qF (ef == v), qF (ef == v), qL 3 bb (o + (((i : Nat) : Int) : Int).toNat * 4 + 1) M (i64 et), qF (ef == v), qF (ef == v), qF (ef == v), qT (et == v), qL 24 rb 1 M (sli bb o m c), .q (.inb (((i : Nat) : Int)) m) (ansB true), qL 3 bb (o + (((i : Nat) : Int) : Int).toNat * 4 + 2) M (i64 1)]) := by kernel_rfl
theorem r22_1b (rb bb o m c i : Nat) (v s : Int) (vn : Value) (ef et : Int) {M : Mem} {M0 : Mem} (X0 : Ext M0 M) (grb : M.get rb = some ⟨[vn, (sli bb o m c)], 59, 2, 0, true⟩) (cc0 : (decide ((((i : Nat) : Int)) < (((m : Nat) : Int)))) = true) (cc1 : (ef == v) = false) (cc2 : (et == v) = true) (hld0 : aload Try.prog 3 ⟨bb, o + (((i : Nat) : Int) : Int).toNat * 4, none⟩ M0 = some (i64 ef)) (hld1 : aload Try.prog 3 ⟨bb, o + (((i : Nat) : Int) : Int).toNat * 4 + 1, none⟩ M0 = some (i64 et)) (hld2 : aload Try.prog 3 ⟨bb, o + (((i : Nat) : Int) : Int).toNat * 4 + 2, none⟩ M0 = some (i64 1)) : ∃ T1, Rd Try.prog [] (q23.loopAt 0) Try.f23.ntmps (fr [(0, (pt rb 0)), (1, (i64 v)), (5, (i64 s)), (6, (i64 (((i : Nat) : Int))))]) M .normal T1 M ∧ [0, 1, 5, 6].map T1.get = [some (pt rb 0), some (i64 v), some (i64 (orI s (2 : Int))), some (i64 (IntKind.wrap .i64 ((((i : Nat) : Int)) + (1 : Int))))] := by
  have hraw := r22_1b_raw rb bb o m c i v s vn ef et M  
  obtain ⟨T1, h1, h2⟩ := Rd.told noNumP mixedP (specs_none Try.prog) (fun _ _ => rfl) hraw (hk (lC dC24 grb rfl) (hk (bT cc0) (hk (lC dC24 grb rfl) (hk (q_inb (by omega) (by simp at cc0; omega)) (hk (q_ld (aload_ext X0 hld0)) (hk (bF cc1) (hk (bF cc1) (hk (bF cc1) (hk (bF cc1) (hk (bF cc1) (hk (lC dC24 grb rfl) (hk (bF cc1) (hk (bF cc1) (hk (q_inb (by omega) (by simp at cc0; omega)) (hk (bF cc1) (hk (bF cc1) (hk (q_ld (aload_ext X0 hld1)) (hk (bF cc1) (hk (bF cc1) (hk (bF cc1) (hk (bT cc2) (hk (lC dC24 grb rfl) (hk (q_inb (by omega) (by simp at cc0; omega)) (hk (q_ld (aload_ext X0 hld2)) hn))))))))))))))))))))))))
  exact ⟨T1, h1, h2⟩
theorem r22_2a_raw (rb bb o m c i : Nat) (v s : Int) (vn : Value) (ef et : Int) (M : Mem)  : oR Try.prog [] 51 Try.f23 (q23.loopAt 0) [(0, (pt rb 0)), (1, (i64 v)), (5, (i64 s)), (6, (i64 (((i : Nat) : Int))))] M [ttL 11 (sli bb o m c), ttT 16, ttL 26 (sli bb o m c), ttT 30, ttL 34 (i64 ef), ttT 41, ttT 43, ttT 45, ttT 47, ttT 49, ttT 51, ttT 53, ttT 55, ttT 57, ttT 59, ttT 61, ttT 64, ttL 77 (sli bb o m c), ttT 81, ttL 85 (i64 2)] [0, 1, 5, 6] = some (.normal, [some (pt rb 0), some (i64 v), some (i64 (orI s (4 : Int))), some (i64 (IntKind.wrap .i64 ((((i : Nat) : Int)) + (1 : Int))))], M, [qL 24 rb 1 M (sli bb o m c), qT (decide ((((i : Nat) : Int)) < (((m : Nat) : Int)))), qL 24 rb 1 M (sli bb o m c), .q (.inb (((i : Nat) : Int)) m) (ansB true), qL 3 bb (o + (((i : Nat) : Int) : Int).toNat * 4) M (i64 ef), qT (ef == v), qT (ef == v), qT (ef == v), qT (ef == v), qT (ef == v), qT (ef == v), qT (ef == v), qT (ef == v), qT (ef == v), qT (ef == v), qT (ef == v), qT (ef == v), qL 24 rb 1 M (sli bb o m c), .q (.inb (((i : Nat) : Int)) m) (ansB true), qL 3 bb (o + (((i : Nat) : Int) : Int).toNat * 4 + 2) M (i64 2)]) := by kernel_rfl
theorem r22_2a (rb bb o m c i : Nat) (v s : Int) (vn : Value) (ef et : Int) {M : Mem} {M0 : Mem} (X0 : Ext M0 M) (grb : M.get rb = some ⟨[vn, (sli bb o m c)], 59, 2, 0, true⟩) (cc0 : (decide ((((i : Nat) : Int)) < (((m : Nat) : Int)))) = true) (cc1 : (ef == v) = true) (hld0 : aload Try.prog 3 ⟨bb, o + (((i : Nat) : Int) : Int).toNat * 4, none⟩ M0 = some (i64 ef)) (hld1 : aload Try.prog 3 ⟨bb, o + (((i : Nat) : Int) : Int).toNat * 4 + 2, none⟩ M0 = some (i64 2)) : ∃ T1, Rd Try.prog [] (q23.loopAt 0) Try.f23.ntmps (fr [(0, (pt rb 0)), (1, (i64 v)), (5, (i64 s)), (6, (i64 (((i : Nat) : Int))))]) M .normal T1 M ∧ [0, 1, 5, 6].map T1.get = [some (pt rb 0), some (i64 v), some (i64 (orI s (4 : Int))), some (i64 (IntKind.wrap .i64 ((((i : Nat) : Int)) + (1 : Int))))] := by
  have hraw := r22_2a_raw rb bb o m c i v s vn ef et M  
  obtain ⟨T1, h1, h2⟩ := Rd.told noNumP mixedP (specs_none Try.prog) (fun _ _ => rfl) hraw (hk (lC dC24 grb rfl) (hk (bT cc0) (hk (lC dC24 grb rfl) (hk (q_inb (by omega) (by simp at cc0; omega)) (hk (q_ld (aload_ext X0 hld0)) (hk (bT cc1) (hk (bT cc1) (hk (bT cc1) (hk (bT cc1) (hk (bT cc1) (hk (bT cc1) (hk (bT cc1) (hk (bT cc1) (hk (bT cc1) (hk (bT cc1) (hk (bT cc1) (hk (bT cc1) (hk (lC dC24 grb rfl) (hk (q_inb (by omega) (by simp at cc0; omega)) (hk (q_ld (aload_ext X0 hld1)) hn))))))))))))))))))))
  exact ⟨T1, h1, h2⟩
theorem r22_2b_raw (rb bb o m c i : Nat) (v s : Int) (vn : Value) (ef et : Int) (M : Mem)  : oR Try.prog [] 51 Try.f23 (q23.loopAt 0) [(0, (pt rb 0)), (1, (i64 v)), (5, (i64 s)), (6, (i64 (((i : Nat) : Int))))] M [ttL 11 (sli bb o m c), ttT 16, ttL 26 (sli bb o m c), ttT 30, ttL 34 (i64 ef), ttF 41, ttF 43, ttF 45, ttF 47, ttF 49, ttL 50 (sli bb o m c), ttF 51, ttF 53, ttT 54, ttF 55, ttF 57, ttL 58 (i64 et), ttF 59, ttF 61, ttF 64, ttT 65, ttL 77 (sli bb o m c), ttT 81, ttL 85 (i64 2)] [0, 1, 5, 6] = some (.normal, [some (pt rb 0), some (i64 v), some (i64 (orI s (4 : Int))), some (i64 (IntKind.wrap .i64 ((((i : Nat) : Int)) + (1 : Int))))], M, [qL 24 rb 1 M (sli bb o m c), qT (decide ((((i : Nat) : Int)) < (((m : Nat) : Int)))), qL 24 rb 1 M (sli bb o m c), .q (.inb (((i : Nat) : Int)) m) (ansB true), qL 3 bb (o + (((i : Nat) : Int) : Int).toNat * 4) M (i64 ef), qF (ef == v), qF (ef == v), qF (ef == v), qF (ef == v), qF (ef == v), qL 24 rb 1 M (sli bb o m c), qF (ef == v), qF (ef == v), .q (.inb (((i : Nat) : Int)) m) (ansB true), qF (ef == v), qF (ef == v), qL 3 bb (o + (((i : Nat) : Int) : Int).toNat * 4 + 1) M (i64 et), qF (ef == v), qF (ef == v), qF (ef == v), qT (et == v), qL 24 rb 1 M (sli bb o m c), .q (.inb (((i : Nat) : Int)) m) (ansB true), qL 3 bb (o + (((i : Nat) : Int) : Int).toNat * 4 + 2) M (i64 2)]) := by kernel_rfl
theorem r22_2b (rb bb o m c i : Nat) (v s : Int) (vn : Value) (ef et : Int) {M : Mem} {M0 : Mem} (X0 : Ext M0 M) (grb : M.get rb = some ⟨[vn, (sli bb o m c)], 59, 2, 0, true⟩) (cc0 : (decide ((((i : Nat) : Int)) < (((m : Nat) : Int)))) = true) (cc1 : (ef == v) = false) (cc2 : (et == v) = true) (hld0 : aload Try.prog 3 ⟨bb, o + (((i : Nat) : Int) : Int).toNat * 4, none⟩ M0 = some (i64 ef)) (hld1 : aload Try.prog 3 ⟨bb, o + (((i : Nat) : Int) : Int).toNat * 4 + 1, none⟩ M0 = some (i64 et)) (hld2 : aload Try.prog 3 ⟨bb, o + (((i : Nat) : Int) : Int).toNat * 4 + 2, none⟩ M0 = some (i64 2)) : ∃ T1, Rd Try.prog [] (q23.loopAt 0) Try.f23.ntmps (fr [(0, (pt rb 0)), (1, (i64 v)), (5, (i64 s)), (6, (i64 (((i : Nat) : Int))))]) M .normal T1 M ∧ [0, 1, 5, 6].map T1.get = [some (pt rb 0), some (i64 v), some (i64 (orI s (4 : Int))), some (i64 (IntKind.wrap .i64 ((((i : Nat) : Int)) + (1 : Int))))] := by
  have hraw := r22_2b_raw rb bb o m c i v s vn ef et M  
  obtain ⟨T1, h1, h2⟩ := Rd.told noNumP mixedP (specs_none Try.prog) (fun _ _ => rfl) hraw (hk (lC dC24 grb rfl) (hk (bT cc0) (hk (lC dC24 grb rfl) (hk (q_inb (by omega) (by simp at cc0; omega)) (hk (q_ld (aload_ext X0 hld0)) (hk (bF cc1) (hk (bF cc1) (hk (bF cc1) (hk (bF cc1) (hk (bF cc1) (hk (lC dC24 grb rfl) (hk (bF cc1) (hk (bF cc1) (hk (q_inb (by omega) (by simp at cc0; omega)) (hk (bF cc1) (hk (bF cc1) (hk (q_ld (aload_ext X0 hld1)) (hk (bF cc1) (hk (bF cc1) (hk (bF cc1) (hk (bT cc2) (hk (lC dC24 grb rfl) (hk (q_inb (by omega) (by simp at cc0; omega)) (hk (q_ld (aload_ext X0 hld2)) hn))))))))))))))))))))))))
  exact ⟨T1, h1, h2⟩
theorem r22_3a_raw (rb bb o m c i : Nat) (v s : Int) (vn : Value) (ef et : Int) (M : Mem)  : oR Try.prog [] 51 Try.f23 (q23.loopAt 0) [(0, (pt rb 0)), (1, (i64 v)), (5, (i64 s)), (6, (i64 (((i : Nat) : Int))))] M [ttL 11 (sli bb o m c), ttT 16, ttL 26 (sli bb o m c), ttT 30, ttL 34 (i64 ef), ttT 41, ttT 43, ttT 45, ttT 47, ttT 49, ttT 51, ttT 53, ttT 55, ttT 57, ttT 59, ttT 61, ttT 64, ttL 77 (sli bb o m c), ttT 81, ttL 85 (i64 3)] [0, 1, 5, 6] = some (.normal, [some (pt rb 0), some (i64 v), some (i64 (orI s (8 : Int))), some (i64 (IntKind.wrap .i64 ((((i : Nat) : Int)) + (1 : Int))))], M, [qL 24 rb 1 M (sli bb o m c), qT (decide ((((i : Nat) : Int)) < (((m : Nat) : Int)))), qL 24 rb 1 M (sli bb o m c), .q (.inb (((i : Nat) : Int)) m) (ansB true), qL 3 bb (o + (((i : Nat) : Int) : Int).toNat * 4) M (i64 ef), qT (ef == v), qT (ef == v), qT (ef == v), qT (ef == v), qT (ef == v), qT (ef == v), qT (ef == v), qT (ef == v), qT (ef == v), qT (ef == v), qT (ef == v), qT (ef == v), qL 24 rb 1 M (sli bb o m c), .q (.inb (((i : Nat) : Int)) m) (ansB true), qL 3 bb (o + (((i : Nat) : Int) : Int).toNat * 4 + 2) M (i64 3)]) := by kernel_rfl
theorem r22_3a (rb bb o m c i : Nat) (v s : Int) (vn : Value) (ef et : Int) {M : Mem} {M0 : Mem} (X0 : Ext M0 M) (grb : M.get rb = some ⟨[vn, (sli bb o m c)], 59, 2, 0, true⟩) (cc0 : (decide ((((i : Nat) : Int)) < (((m : Nat) : Int)))) = true) (cc1 : (ef == v) = true) (hld0 : aload Try.prog 3 ⟨bb, o + (((i : Nat) : Int) : Int).toNat * 4, none⟩ M0 = some (i64 ef)) (hld1 : aload Try.prog 3 ⟨bb, o + (((i : Nat) : Int) : Int).toNat * 4 + 2, none⟩ M0 = some (i64 3)) : ∃ T1, Rd Try.prog [] (q23.loopAt 0) Try.f23.ntmps (fr [(0, (pt rb 0)), (1, (i64 v)), (5, (i64 s)), (6, (i64 (((i : Nat) : Int))))]) M .normal T1 M ∧ [0, 1, 5, 6].map T1.get = [some (pt rb 0), some (i64 v), some (i64 (orI s (8 : Int))), some (i64 (IntKind.wrap .i64 ((((i : Nat) : Int)) + (1 : Int))))] := by
  have hraw := r22_3a_raw rb bb o m c i v s vn ef et M  
  obtain ⟨T1, h1, h2⟩ := Rd.told noNumP mixedP (specs_none Try.prog) (fun _ _ => rfl) hraw (hk (lC dC24 grb rfl) (hk (bT cc0) (hk (lC dC24 grb rfl) (hk (q_inb (by omega) (by simp at cc0; omega)) (hk (q_ld (aload_ext X0 hld0)) (hk (bT cc1) (hk (bT cc1) (hk (bT cc1) (hk (bT cc1) (hk (bT cc1) (hk (bT cc1) (hk (bT cc1) (hk (bT cc1) (hk (bT cc1) (hk (bT cc1) (hk (bT cc1) (hk (bT cc1) (hk (lC dC24 grb rfl) (hk (q_inb (by omega) (by simp at cc0; omega)) (hk (q_ld (aload_ext X0 hld1)) hn))))))))))))))))))))
  exact ⟨T1, h1, h2⟩
theorem r22_3b_raw (rb bb o m c i : Nat) (v s : Int) (vn : Value) (ef et : Int) (M : Mem)  : oR Try.prog [] 51 Try.f23 (q23.loopAt 0) [(0, (pt rb 0)), (1, (i64 v)), (5, (i64 s)), (6, (i64 (((i : Nat) : Int))))] M [ttL 11 (sli bb o m c), ttT 16, ttL 26 (sli bb o m c), ttT 30, ttL 34 (i64 ef), ttF 41, ttF 43, ttF 45, ttF 47, ttF 49, ttL 50 (sli bb o m c), ttF 51, ttF 53, ttT 54, ttF 55, ttF 57, ttL 58 (i64 et), ttF 59, ttF 61, ttF 64, ttT 65, ttL 77 (sli bb o m c), ttT 81, ttL 85 (i64 3)] [0, 1, 5, 6] = some (.normal, [some (pt rb 0), some (i64 v), some (i64 (orI s (8 : Int))), some (i64 (IntKind.wrap .i64 ((((i : Nat) : Int)) + (1 : Int))))], M, [qL 24 rb 1 M (sli bb o m c), qT (decide ((((i : Nat) : Int)) < (((m : Nat) : Int)))), qL 24 rb 1 M (sli bb o m c), .q (.inb (((i : Nat) : Int)) m) (ansB true), qL 3 bb (o + (((i : Nat) : Int) : Int).toNat * 4) M (i64 ef), qF (ef == v), qF (ef == v), qF (ef == v), qF (ef == v), qF (ef == v), qL 24 rb 1 M (sli bb o m c), qF (ef == v), qF (ef == v), .q (.inb (((i : Nat) : Int)) m) (ansB true), qF (ef == v), qF (ef == v), qL 3 bb (o + (((i : Nat) : Int) : Int).toNat * 4 + 1) M (i64 et), qF (ef == v), qF (ef == v), qF (ef == v), qT (et == v), qL 24 rb 1 M (sli bb o m c), .q (.inb (((i : Nat) : Int)) m) (ansB true), qL 3 bb (o + (((i : Nat) : Int) : Int).toNat * 4 + 2) M (i64 3)]) := by kernel_rfl
theorem r22_3b (rb bb o m c i : Nat) (v s : Int) (vn : Value) (ef et : Int) {M : Mem} {M0 : Mem} (X0 : Ext M0 M) (grb : M.get rb = some ⟨[vn, (sli bb o m c)], 59, 2, 0, true⟩) (cc0 : (decide ((((i : Nat) : Int)) < (((m : Nat) : Int)))) = true) (cc1 : (ef == v) = false) (cc2 : (et == v) = true) (hld0 : aload Try.prog 3 ⟨bb, o + (((i : Nat) : Int) : Int).toNat * 4, none⟩ M0 = some (i64 ef)) (hld1 : aload Try.prog 3 ⟨bb, o + (((i : Nat) : Int) : Int).toNat * 4 + 1, none⟩ M0 = some (i64 et)) (hld2 : aload Try.prog 3 ⟨bb, o + (((i : Nat) : Int) : Int).toNat * 4 + 2, none⟩ M0 = some (i64 3)) : ∃ T1, Rd Try.prog [] (q23.loopAt 0) Try.f23.ntmps (fr [(0, (pt rb 0)), (1, (i64 v)), (5, (i64 s)), (6, (i64 (((i : Nat) : Int))))]) M .normal T1 M ∧ [0, 1, 5, 6].map T1.get = [some (pt rb 0), some (i64 v), some (i64 (orI s (8 : Int))), some (i64 (IntKind.wrap .i64 ((((i : Nat) : Int)) + (1 : Int))))] := by
  have hraw := r22_3b_raw rb bb o m c i v s vn ef et M  
  obtain ⟨T1, h1, h2⟩ := Rd.told noNumP mixedP (specs_none Try.prog) (fun _ _ => rfl) hraw (hk (lC dC24 grb rfl) (hk (bT cc0) (hk (lC dC24 grb rfl) (hk (q_inb (by omega) (by simp at cc0; omega)) (hk (q_ld (aload_ext X0 hld0)) (hk (bF cc1) (hk (bF cc1) (hk (bF cc1) (hk (bF cc1) (hk (bF cc1) (hk (lC dC24 grb rfl) (hk (bF cc1) (hk (bF cc1) (hk (q_inb (by omega) (by simp at cc0; omega)) (hk (bF cc1) (hk (bF cc1) (hk (q_ld (aload_ext X0 hld1)) (hk (bF cc1) (hk (bF cc1) (hk (bF cc1) (hk (bT cc2) (hk (lC dC24 grb rfl) (hk (q_inb (by omega) (by simp at cc0; omega)) (hk (q_ld (aload_ext X0 hld2)) hn))))))))))))))))))))))))
  exact ⟨T1, h1, h2⟩
theorem r22_4a_raw (rb bb o m c i : Nat) (v s : Int) (vn : Value) (ef et : Int) (M : Mem)  : oR Try.prog [] 51 Try.f23 (q23.loopAt 0) [(0, (pt rb 0)), (1, (i64 v)), (5, (i64 s)), (6, (i64 (((i : Nat) : Int))))] M [ttL 11 (sli bb o m c), ttT 16, ttL 26 (sli bb o m c), ttT 30, ttL 34 (i64 ef), ttT 41, ttT 43, ttT 45, ttT 47, ttT 49, ttT 51, ttT 53, ttT 55, ttT 57, ttT 59, ttT 61, ttT 64, ttL 77 (sli bb o m c), ttT 81, ttL 85 (i64 4)] [0, 1, 5, 6] = some (.normal, [some (pt rb 0), some (i64 v), some (i64 (orI s (16 : Int))), some (i64 (IntKind.wrap .i64 ((((i : Nat) : Int)) + (1 : Int))))], M, [qL 24 rb 1 M (sli bb o m c), qT (decide ((((i : Nat) : Int)) < (((m : Nat) : Int)))), qL 24 rb 1 M (sli bb o m c), .q (.inb (((i : Nat) : Int)) m) (ansB true), qL 3 bb (o + (((i : Nat) : Int) : Int).toNat * 4) M (i64 ef), qT (ef == v), qT (ef == v), qT (ef == v), qT (ef == v), qT (ef == v), qT (ef == v), qT (ef == v), qT (ef == v), qT (ef == v), qT (ef == v), qT (ef == v), qT (ef == v), qL 24 rb 1 M (sli bb o m c), .q (.inb (((i : Nat) : Int)) m) (ansB true), qL 3 bb (o + (((i : Nat) : Int) : Int).toNat * 4 + 2) M (i64 4)]) := by kernel_rfl
theorem r22_4a (rb bb o m c i : Nat) (v s : Int) (vn : Value) (ef et : Int) {M : Mem} {M0 : Mem} (X0 : Ext M0 M) (grb : M.get rb = some ⟨[vn, (sli bb o m c)], 59, 2, 0, true⟩) (cc0 : (decide ((((i : Nat) : Int)) < (((m : Nat) : Int)))) = true) (cc1 : (ef == v) = true) (hld0 : aload Try.prog 3 ⟨bb, o + (((i : Nat) : Int) : Int).toNat * 4, none⟩ M0 = some (i64 ef)) (hld1 : aload Try.prog 3 ⟨bb, o + (((i : Nat) : Int) : Int).toNat * 4 + 2, none⟩ M0 = some (i64 4)) : ∃ T1, Rd Try.prog [] (q23.loopAt 0) Try.f23.ntmps (fr [(0, (pt rb 0)), (1, (i64 v)), (5, (i64 s)), (6, (i64 (((i : Nat) : Int))))]) M .normal T1 M ∧ [0, 1, 5, 6].map T1.get = [some (pt rb 0), some (i64 v), some (i64 (orI s (16 : Int))), some (i64 (IntKind.wrap .i64 ((((i : Nat) : Int)) + (1 : Int))))] := by
  have hraw := r22_4a_raw rb bb o m c i v s vn ef et M  
  obtain ⟨T1, h1, h2⟩ := Rd.told noNumP mixedP (specs_none Try.prog) (fun _ _ => rfl) hraw (hk (lC dC24 grb rfl) (hk (bT cc0) (hk (lC dC24 grb rfl) (hk (q_inb (by omega) (by simp at cc0; omega)) (hk (q_ld (aload_ext X0 hld0)) (hk (bT cc1) (hk (bT cc1) (hk (bT cc1) (hk (bT cc1) (hk (bT cc1) (hk (bT cc1) (hk (bT cc1) (hk (bT cc1) (hk (bT cc1) (hk (bT cc1) (hk (bT cc1) (hk (bT cc1) (hk (lC dC24 grb rfl) (hk (q_inb (by omega) (by simp at cc0; omega)) (hk (q_ld (aload_ext X0 hld1)) hn))))))))))))))))))))
  exact ⟨T1, h1, h2⟩
theorem r22_4b_raw (rb bb o m c i : Nat) (v s : Int) (vn : Value) (ef et : Int) (M : Mem)  : oR Try.prog [] 51 Try.f23 (q23.loopAt 0) [(0, (pt rb 0)), (1, (i64 v)), (5, (i64 s)), (6, (i64 (((i : Nat) : Int))))] M [ttL 11 (sli bb o m c), ttT 16, ttL 26 (sli bb o m c), ttT 30, ttL 34 (i64 ef), ttF 41, ttF 43, ttF 45, ttF 47, ttF 49, ttL 50 (sli bb o m c), ttF 51, ttF 53, ttT 54, ttF 55, ttF 57, ttL 58 (i64 et), ttF 59, ttF 61, ttF 64, ttT 65, ttL 77 (sli bb o m c), ttT 81, ttL 85 (i64 4)] [0, 1, 5, 6] = some (.normal, [some (pt rb 0), some (i64 v), some (i64 (orI s (16 : Int))), some (i64 (IntKind.wrap .i64 ((((i : Nat) : Int)) + (1 : Int))))], M, [qL 24 rb 1 M (sli bb o m c), qT (decide ((((i : Nat) : Int)) < (((m : Nat) : Int)))), qL 24 rb 1 M (sli bb o m c), .q (.inb (((i : Nat) : Int)) m) (ansB true), qL 3 bb (o + (((i : Nat) : Int) : Int).toNat * 4) M (i64 ef), qF (ef == v), qF (ef == v), qF (ef == v), qF (ef == v), qF (ef == v), qL 24 rb 1 M (sli bb o m c), qF (ef == v), qF (ef == v), .q (.inb (((i : Nat) : Int)) m) (ansB true), qF (ef == v), qF (ef == v), qL 3 bb (o + (((i : Nat) : Int) : Int).toNat * 4 + 1) M (i64 et), qF (ef == v), qF (ef == v), qF (ef == v), qT (et == v), qL 24 rb 1 M (sli bb o m c), .q (.inb (((i : Nat) : Int)) m) (ansB true), qL 3 bb (o + (((i : Nat) : Int) : Int).toNat * 4 + 2) M (i64 4)]) := by kernel_rfl
theorem r22_4b (rb bb o m c i : Nat) (v s : Int) (vn : Value) (ef et : Int) {M : Mem} {M0 : Mem} (X0 : Ext M0 M) (grb : M.get rb = some ⟨[vn, (sli bb o m c)], 59, 2, 0, true⟩) (cc0 : (decide ((((i : Nat) : Int)) < (((m : Nat) : Int)))) = true) (cc1 : (ef == v) = false) (cc2 : (et == v) = true) (hld0 : aload Try.prog 3 ⟨bb, o + (((i : Nat) : Int) : Int).toNat * 4, none⟩ M0 = some (i64 ef)) (hld1 : aload Try.prog 3 ⟨bb, o + (((i : Nat) : Int) : Int).toNat * 4 + 1, none⟩ M0 = some (i64 et)) (hld2 : aload Try.prog 3 ⟨bb, o + (((i : Nat) : Int) : Int).toNat * 4 + 2, none⟩ M0 = some (i64 4)) : ∃ T1, Rd Try.prog [] (q23.loopAt 0) Try.f23.ntmps (fr [(0, (pt rb 0)), (1, (i64 v)), (5, (i64 s)), (6, (i64 (((i : Nat) : Int))))]) M .normal T1 M ∧ [0, 1, 5, 6].map T1.get = [some (pt rb 0), some (i64 v), some (i64 (orI s (16 : Int))), some (i64 (IntKind.wrap .i64 ((((i : Nat) : Int)) + (1 : Int))))] := by
  have hraw := r22_4b_raw rb bb o m c i v s vn ef et M  
  obtain ⟨T1, h1, h2⟩ := Rd.told noNumP mixedP (specs_none Try.prog) (fun _ _ => rfl) hraw (hk (lC dC24 grb rfl) (hk (bT cc0) (hk (lC dC24 grb rfl) (hk (q_inb (by omega) (by simp at cc0; omega)) (hk (q_ld (aload_ext X0 hld0)) (hk (bF cc1) (hk (bF cc1) (hk (bF cc1) (hk (bF cc1) (hk (bF cc1) (hk (lC dC24 grb rfl) (hk (bF cc1) (hk (bF cc1) (hk (q_inb (by omega) (by simp at cc0; omega)) (hk (bF cc1) (hk (bF cc1) (hk (q_ld (aload_ext X0 hld1)) (hk (bF cc1) (hk (bF cc1) (hk (bF cc1) (hk (bT cc2) (hk (lC dC24 grb rfl) (hk (q_inb (by omega) (by simp at cc0; omega)) (hk (q_ld (aload_ext X0 hld2)) hn))))))))))))))))))))))))
  exact ⟨T1, h1, h2⟩
theorem r22x_raw (rb : Nat) (a : Option Addr) (m c i : Nat) (v s : Int) (vn : Value) (M : Mem)  : oR Try.prog [] 51 Try.f23 (q23.loopAt 0) [(0, (pt rb 0)), (1, (i64 v)), (5, (i64 s)), (6, (i64 (((i : Nat) : Int))))] M [ttL 11 (.slice a m c), ttT 13, ttF 16] [5] = some ((.exit 0), [some (i64 s)], M, [qL 24 rb 1 M (.slice a m c), .ln a m c, qF (decide ((((i : Nat) : Int)) < (((m : Nat) : Int))))]) := by kernel_rfl
theorem r22x (rb : Nat) (a : Option Addr) (m c i : Nat) (v s : Int) (vn : Value) {M : Mem} (grb : M.get rb = some ⟨[vn, (.slice a m c)], 59, 2, 0, true⟩) (hln : a.isNone = true → m = 0 ∧ c = 0) (cc0 : (decide ((((i : Nat) : Int)) < (((m : Nat) : Int)))) = false) : ∃ T1, Rd Try.prog [] (q23.loopAt 0) Try.f23.ntmps (fr [(0, (pt rb 0)), (1, (i64 v)), (5, (i64 s)), (6, (i64 (((i : Nat) : Int))))]) M (.exit 0) T1 M ∧ [5].map T1.get = [some (i64 s)] := by
  have hraw := r22x_raw rb a m c i v s vn M  
  obtain ⟨T1, h1, h2⟩ := Rd.told noNumP mixedP (specs_none Try.prog) (fun _ _ => rfl) hraw (hk (lC dC24 grb rfl) (hk (lN hln) (hk (bF cc0) hn)))
  exact ⟨T1, h1, h2⟩
theorem loop22 {rb n : Nat} {a : Option Addr} {c : Nat} {v : Int} {l : List E4} {M : Mem} (hM : MemOk M) (grb : M.get rb = some ⟨[i64 ((n : Nat) : Int), .slice a l.length c], 59, 2, 0, true⟩) (hs : pEdges l (.slice a l.length c) M) (hok : ∀ e ∈ l, okM e) :
    ∃ M', LoopR Try.prog [] (q23.loopAt 0) Try.f23.ntmps (fr [(0, pt rb 0), (1, i64 v), (5, i64 0), (6, i64 ((0 : Nat) : Int))]) M (.exit 0) (fr [(5, i64 (refModes l v l.length))]) M' ∧ Ext M M' ∧ MemOk M' := by
  have hlen := hs.len
  obtain ⟨_, M', h1, h2, h3, _⟩ := LoopR.for (P := Try.prog) (GL := []) (b := q23.loopAt 0) (nt := Try.f23.ntmps) (id := 0) (σ := Unit) (n := l.length) (Inv := fun i _ M1 => Ext M M1 ∧ MemOk M1 ∧ True)
    (F := fun i _ => [(0, pt rb 0), (1, i64 v), (5, i64 (refModes l v i)), (6, i64 ((i : Nat) : Int))])
    (O := fun _ => [(5, i64 (refModes l v l.length))])
    (by
      rintro i _ M1 hi ⟨X1, hM1, _⟩
      obtain ⟨bb, o, rfl, _⟩ := form_pos hs (by omega)
      have ht : l[i]? = some l[i] := List.getElem?_eq_getElem hi
      have hm := hok _ (List.getElem_mem hi)
      have ld0 : aload Try.prog 3 ⟨bb, o + (((i : Nat) : Int) : Int).toNat * 4, none⟩ M = some (i64 l[i].f) := ld_cell (P := Try.prog) (j := 0) hs ht rfl dC3
      have ld1 : aload Try.prog 3 ⟨bb, o + (((i : Nat) : Int) : Int).toNat * 4 + 1, none⟩ M = some (i64 l[i].t) := ld_cell (P := Try.prog) (j := 1) hs ht rfl dC3
      have ld2 : aload Try.prog 3 ⟨bb, o + (((i : Nat) : Int) : Int).toNat * 4 + 2, none⟩ M = some (i64 l[i].m) := ld_cell (P := Try.prog) (j := 2) hs ht rfl dC3
      have grb1 := X1.old grb
      rw [refModes_succ v ht]
      have hc : decide (((i : Nat) : Int) < ((l.length : Nat) : Int)) = true := decide_eq_true (by omega)
      have hmm : l[i].m = 0 ∨ l[i].m = 1 ∨ l[i].m = 2 ∨ l[i].m = 3 ∨ l[i].m = 4 := by unfold okM at hm; omega
      by_cases hf : l[i].f = v
      · rw [if_pos (.inl hf)]
        rcases hmm with hk | hk | hk | hk | hk <;> rw [hk] at ld2 ⊢
        · obtain ⟨T1, h1, h2⟩ := r22_0a rb bb o l.length c i v _ _ l[i].f l[i].t X1 grb1 hc (by simp [hf]) ld0 ld2
          rw [wrap_succ (by omega)] at h2
          exact ⟨(), T1, M1, h1, h2, X1, hM1, trivial⟩
        · obtain ⟨T1, h1, h2⟩ := r22_1a rb bb o l.length c i v _ _ l[i].f l[i].t X1 grb1 hc (by simp [hf]) ld0 ld2
          rw [wrap_succ (by omega)] at h2
          exact ⟨(), T1, M1, h1, h2, X1, hM1, trivial⟩
        · obtain ⟨T1, h1, h2⟩ := r22_2a rb bb o l.length c i v _ _ l[i].f l[i].t X1 grb1 hc (by simp [hf]) ld0 ld2
          rw [wrap_succ (by omega)] at h2
          exact ⟨(), T1, M1, h1, h2, X1, hM1, trivial⟩
        · obtain ⟨T1, h1, h2⟩ := r22_3a rb bb o l.length c i v _ _ l[i].f l[i].t X1 grb1 hc (by simp [hf]) ld0 ld2
          rw [wrap_succ (by omega)] at h2
          exact ⟨(), T1, M1, h1, h2, X1, hM1, trivial⟩
        · obtain ⟨T1, h1, h2⟩ := r22_4a rb bb o l.length c i v _ _ l[i].f l[i].t X1 grb1 hc (by simp [hf]) ld0 ld2
          rw [wrap_succ (by omega)] at h2
          exact ⟨(), T1, M1, h1, h2, X1, hM1, trivial⟩
      · by_cases hg : l[i].t = v
        · rw [if_pos (.inr hg)]
          rcases hmm with hk | hk | hk | hk | hk <;> rw [hk] at ld2 ⊢
          · obtain ⟨T1, h1, h2⟩ := r22_0b rb bb o l.length c i v _ _ l[i].f l[i].t X1 grb1 hc (by simp [hf]) (by simp [hg]) ld0 ld1 ld2
            rw [wrap_succ (by omega)] at h2
            exact ⟨(), T1, M1, h1, h2, X1, hM1, trivial⟩
          · obtain ⟨T1, h1, h2⟩ := r22_1b rb bb o l.length c i v _ _ l[i].f l[i].t X1 grb1 hc (by simp [hf]) (by simp [hg]) ld0 ld1 ld2
            rw [wrap_succ (by omega)] at h2
            exact ⟨(), T1, M1, h1, h2, X1, hM1, trivial⟩
          · obtain ⟨T1, h1, h2⟩ := r22_2b rb bb o l.length c i v _ _ l[i].f l[i].t X1 grb1 hc (by simp [hf]) (by simp [hg]) ld0 ld1 ld2
            rw [wrap_succ (by omega)] at h2
            exact ⟨(), T1, M1, h1, h2, X1, hM1, trivial⟩
          · obtain ⟨T1, h1, h2⟩ := r22_3b rb bb o l.length c i v _ _ l[i].f l[i].t X1 grb1 hc (by simp [hf]) (by simp [hg]) ld0 ld1 ld2
            rw [wrap_succ (by omega)] at h2
            exact ⟨(), T1, M1, h1, h2, X1, hM1, trivial⟩
          · obtain ⟨T1, h1, h2⟩ := r22_4b rb bb o l.length c i v _ _ l[i].f l[i].t X1 grb1 hc (by simp [hf]) (by simp [hg]) ld0 ld1 ld2
            rw [wrap_succ (by omega)] at h2
            exact ⟨(), T1, M1, h1, h2, X1, hM1, trivial⟩
        · rw [if_neg (fun h => h.elim hf hg)]
          obtain ⟨T1, h1, h2⟩ := r22_0c rb bb o l.length c i v _ _ l[i].f l[i].t X1 grb1 hc (by simp [hf]) (by simp [hg]) ld0 ld1
          rw [wrap_succ (by omega)] at h2
          exact ⟨(), T1, M1, h1, h2, X1, hM1, trivial⟩)
    (by
      rintro _ M1 ⟨X1, hM1, _⟩
      exact r22x rb a l.length c l.length v _ _ (X1.old grb) hs.ln (decide_eq_false (by omega)))
    l.length 0 (by omega) (s := ()) (M := M) ⟨Ext.refl M, hM, trivial⟩
  exact ⟨M', h1, h2, h3⟩
theorem rK23 : Try.f23.results = #[.tmp 4] := by kernel_rfl
theorem w22_raw (rb n : Nat) (al : Option Addr) (cl : Nat) (l : List E4) (v : Int) (M : Mem) (M1 : Mem) : oT Try.prog [0] 60 Try.f23 q23 [(pt rb 0), (i64 v)] M [.blk 6 [0, 1, 5, 6] .normal (fr [(5, (i64 (refModes l v l.length)))]) M1] 4 = some (.ret, some (i64 (refModes l v l.length)), M1, [.blk 0 (.loop (q23.loopAt 0)) Try.f23.ntmps [0, 1, 5, 6] [some (pt rb 0), some (i64 v), some (i64 0), some (i64 0)] M .normal (fr [(5, (i64 (refModes l v l.length)))]) M1]) := by kernel_rfl
theorem w22 (rb n : Nat) (al : Option Addr) (cl : Nat) (l : List E4) (v : Int) {M : Mem} (hM : MemOk M) (grb : M.get rb = some ⟨[i64 ((n : Nat) : Int), .slice al l.length cl], 59, 2, 0, true⟩) (hl : pEdges l (.slice al l.length cl) M) (hokM : ∀ e ∈ l, okM e) : ∃ v_ M', Ev Try.prog [] 23 [(pt rb 0), (i64 v)] M v_ M' ∧ Ext M M' ∧ MemOk M' ∧ v_ = i64 (refModes l v l.length) := by
  obtain ⟨M1, hL2, E3, hM4⟩ := loop22 hM grb (AP.Ext (R := pEdges) hl (Ext.refl M)) hokM
  have nx5 := E3.next
  have g6 := E3.old grb
  have X7 := (Ext.refl M).trans E3
  have hraw := w22_raw rb n al cl l v M  M1
  exact ⟨(i64 (refModes l v l.length)), M1, Ev.told_tmp noNumP mixedP Try.func23 q23_ok (by kernel_rfl) rK23 (fun B => specsB_ok (l := []) (fun p hp => by cases hp) (k := [(0, bone (.loop (q23.loopAt 0)) Try.f23.ntmps [0, 1, 5, 6] [some (pt rb 0), some (i64 v), some (i64 0), some (i64 0)] M .normal (fr [(5, (i64 (refModes l v l.length)))]) M1)]) (fun p hp => by simp only [List.mem_cons, List.not_mem_nil, or_false] at hp; rcases hp with rfl <;> first | exact BlkOk.loop noNumP mixedP hL2)) (fun _ h => blksF_one h) hraw (hk (q_blk rfl) hn), X7, hM4, rfl⟩
abbrev Q23 := FC (asP (as2 (pRefA 59) pI) fun x => ∀ e ∈ x.1.2, okM e) (plain pI) (fun x => refModes x.1.2 x.2 x.1.2.length)
theorem con23 {x : (Nat × List E4) × Int} {lv : List Value} {M : Mem} (hM : MemOk M) (h : (asP (as2 (pRefA 59) pI) fun x : (Nat × List E4) × Int => ∀ e ∈ x.1.2, okM e) x lv M) : ∃ v M', Con Try.prog [] 23 Q23 lv M v M' := by
  refine FC.con h ?_
  obtain ⟨⟨g0, g1, rfl, k0, k1⟩, hl4⟩ := h
  obtain ⟨⟨n, l⟩, v⟩ := x
  obtain rfl := k1
  obtain ⟨rb, L, rfl, grb, hl⟩ := k0
  obtain ⟨a, c, rfl⟩ := GRowsAt.form hl
  obtain ⟨v', M', h1, h2, _, h3⟩ := w22 rb n a c l v hM grb hl hl4
  exact ⟨v', M', h1, h2, h3⟩
end Go.Proofs.Ytipnhelkganmdaa
