/-
  What is proved: MiniSteady: a machine of Make's is steady just if a letter twice is a letter once: for every x, y, every word. For every argument; one laid table (math/bits) is tied by the card.
-/
import Derived.Test.YtchnlooenomfnaaGreatDoorGXD
set_option linter.unusedVariables false
set_option linter.unusedSimpArgs false
open Go Go.Am Go.Proofs
namespace Go.Proofs.YtchnlooenomfnaaGreatDoor
set_option maxRecDepth 100000
def cellAt (l1 : List (List Int)) (st z : Int) : Int := (((l1[st.toNat]?).getD [])[z.toNat]?).getD 0
def goL (l1 : List (List Int)) (st : Int) : List Int → Option Int
  | [] => some st
  | z :: w => bif noneB st ((l1.length : Nat) : Int) || noneB z (5 : Int) then none else goL l1 (cellAt l1 st z) w
def goF (l1 : List (List Int)) (st : Int) (ws : List Int) : Int := bif (goL l1 st ws).isNone then (-1 : Int) else bif noneB ((goL l1 st ws).getD 0) ((l1.length : Nat) : Int) then (-1 : Int) else ((goL l1 st ws).getD 0)
theorem noneB_false {s n : Int} (h : noneB s n = false) : 0 ≤ s ∧ s < n := by
  simp [noneB] at h
  omega
theorem load_dfa {M : Mem} {b o c : Nat} {l1 : List (List Int)} {st z : Int} (h : FlatAt 5 M (.slice (some ⟨b, o, none⟩) l1.length c) l1) (h1 : noneB st ((l1.length : Nat) : Int) = false) (h2 : noneB z (5 : Int) = false) :
    aload Tryz.prog 3 ⟨b, o + st.toNat * 5 + z.toNat * 1, none⟩ M = some (i64 (cellAt l1 st z)) := by
  obtain ⟨a1, a2⟩ := noneB_false h1
  obtain ⟨b1, b2⟩ := noneB_false h2
  have hi : l1[st.toNat]? = some l1[st.toNat] := List.getElem?_eq_getElem (by omega)
  have hw := h.wide _ (List.getElem_mem (show st.toNat < l1.length by omega))
  have hj : l1[st.toNat][z.toNat]? = some (l1[st.toNat][z.toNat]'(by omega)) := List.getElem?_eq_getElem (by omega)
  have := load_flat_cell (P := Tryz.prog) (ty := 3) h hi hj dC3
  rw [Nat.mul_one, this]
  simp only [cellAt, hi, Option.getD_some, hj]
theorem good_cell {l1 : List (List Int)} {st z : Int} (hg : l1.any (badR ((l1.length : Nat) : Int)) = false) (hw : ∀ r ∈ l1, r.length = 5) (h1 : noneB st ((l1.length : Nat) : Int) = false) (h2 : noneB z (5 : Int) = false) : noneB (cellAt l1 st z) ((l1.length : Nat) : Int) = false := by
  obtain ⟨a1, a2⟩ := noneB_false h1
  obtain ⟨b1, b2⟩ := noneB_false h2
  have hi : l1[st.toNat]? = some l1[st.toNat] := List.getElem?_eq_getElem (by omega)
  have hm := List.getElem_mem (show st.toNat < l1.length by omega)
  have hw' := hw _ hm
  have hj : l1[st.toNat][z.toNat]? = some (l1[st.toNat][z.toNat]'(by omega)) := List.getElem?_eq_getElem (by omega)
  have h3 := List.any_eq_false.1 hg _ hm
  simp only [cellAt, hi, Option.getD_some, hj]
  have h4 : badR ((l1.length : Nat) : Int) l1[st.toNat] = false := by simpa using h3
  have h5 := List.any_eq_false.1 h4 _ (List.getElem_mem (show z.toNat < l1[st.toNat].length by omega))
  simpa using h5
theorem goL_good {l1 : List (List Int)} (hg : l1.any (badR ((l1.length : Nat) : Int)) = false) (hw : ∀ r ∈ l1, r.length = 5) : ∀ (ws : List Int) (st s : Int), noneB st ((l1.length : Nat) : Int) = false → goL l1 st ws = some s → noneB s ((l1.length : Nat) : Int) = false
  | [], st, s, h, hs => by simp only [goL, Option.some.injEq] at hs; rw [← hs]; exact h
  | z :: w, st, s, h, hs => by
    simp only [goL, h, Bool.false_or] at hs
    cases hz : noneB z (5 : Int) with
    | true => rw [hz] at hs; simp at hs
    | false =>
      rw [hz] at hs
      exact goL_good hg hw w _ s (good_cell hg hw h hz) hs
theorem rd20_r0_raw (b bw ow m cw i : Nat) (a : Option Addr) (n c : Nat) (a2 : Option Addr) (n2 c2 : Nat) (st z u : Int) (M : Mem)  : oR Tryz.prog [] 40 Tryz.f37 (q37.loopAt 0) [(1, (i64 st)), (2, (sli bw ow m cw)), (3, (pt b 0)), (7, (i64 (((i : Nat) : Int))))] M [ttT 8, ttT 14, ttL 16 (i64 z), ttT 21, ttT 23, ttT 25, ttT 27, ttT 29, ttT 32] [6] = some (.ret, [some (i64 (-1))], M, [qT (decide ((((i : Nat) : Int)) < (((m : Nat) : Int)))), .q (.inb (((i : Nat) : Int)) m) (ansB true), qL 3 bw (ow + (((i : Nat) : Int) : Int).toNat * 1) M (i64 z), qT (decide (z < (0 : Int))), qT (decide (z < (0 : Int))), qT (decide (z < (0 : Int))), qT (decide (z < (0 : Int))), qT (decide (z < (0 : Int))), qT (decide (z < (0 : Int)))]) := by kernel_rfl
theorem rd20_r0 (b bw ow m cw i : Nat) (a : Option Addr) (n c : Nat) (a2 : Option Addr) (n2 c2 : Nat) (st z u : Int) {M : Mem} (hM : MemOk M) (hldw : aload Tryz.prog 3 ⟨bw, ow + i * 1, none⟩ M = some (i64 z)) (hb : M.get b = some ⟨[(.slice a n c), (.slice a2 n2 c2)], 27, 2, 0, true⟩) (cc0 : (decide ((((i : Nat) : Int)) < (((m : Nat) : Int)))) = true) (cc1 : (decide (z < (0 : Int))) = true) : ∃ T1 M', Rd Tryz.prog [] (q37.loopAt 0) Tryz.f37.ntmps (fr [(1, (i64 st)), (2, (sli bw ow m cw)), (3, (pt b 0)), (7, (i64 (((i : Nat) : Int))))]) M .ret T1 M' ∧ [6].map T1.get = [some (i64 (-1))] ∧ Ext M M' ∧ MemOk M' := by
  obtain ⟨T1, h1, h2⟩ := Rd.told noNumP mixedP (specs_none Tryz.prog) (fun _ _ => rfl) (rd20_r0_raw b bw ow m cw i a n c a2 n2 c2 st z u M ) (hk (bT cc0) (hk (q_inb (by omega) (by have := of_decide_eq_true cc0; omega)) (hk (q_ld (aload_ext (Ext.refl M) hldw)) (hk (bT cc1) (hk (bT cc1) (hk (bT cc1) (hk (bT cc1) (hk (bT cc1) (hk (bT cc1) hn)))))))))
  exact ⟨T1, M, h1, h2, (Ext.refl M), hM⟩
theorem rd20_r1_raw (b bw ow m cw i : Nat) (a : Option Addr) (n c : Nat) (a2 : Option Addr) (n2 c2 : Nat) (st z u : Int) (M : Mem)  : oR Tryz.prog [] 40 Tryz.f37 (q37.loopAt 0) [(1, (i64 st)), (2, (sli bw ow m cw)), (3, (pt b 0)), (7, (i64 (((i : Nat) : Int))))] M [ttT 8, ttT 14, ttL 16 (i64 z), ttF 21, ttF 23, ttF 25, ttT 26, ttF 27, ttL 28 (i64 z), ttF 29, ttF 32, ttT 33] [6] = some (.ret, [some (i64 (-1))], M, [qT (decide ((((i : Nat) : Int)) < (((m : Nat) : Int)))), .q (.inb (((i : Nat) : Int)) m) (ansB true), qL 3 bw (ow + (((i : Nat) : Int) : Int).toNat * 1) M (i64 z), qF (decide (z < (0 : Int))), qF (decide (z < (0 : Int))), qF (decide (z < (0 : Int))), .q (.inb (((i : Nat) : Int)) m) (ansB true), qF (decide (z < (0 : Int))), qL 3 bw (ow + (((i : Nat) : Int) : Int).toNat * 1) M (i64 z), qF (decide (z < (0 : Int))), qF (decide (z < (0 : Int))), qT (decide (z ≥ (5 : Int)))]) := by kernel_rfl
theorem rd20_r1 (b bw ow m cw i : Nat) (a : Option Addr) (n c : Nat) (a2 : Option Addr) (n2 c2 : Nat) (st z u : Int) {M : Mem} (hM : MemOk M) (hldw : aload Tryz.prog 3 ⟨bw, ow + i * 1, none⟩ M = some (i64 z)) (hb : M.get b = some ⟨[(.slice a n c), (.slice a2 n2 c2)], 27, 2, 0, true⟩) (cc0 : (decide ((((i : Nat) : Int)) < (((m : Nat) : Int)))) = true) (cc1 : (decide (z < (0 : Int))) = false) (cc2 : (decide (z ≥ (5 : Int))) = true) : ∃ T1 M', Rd Tryz.prog [] (q37.loopAt 0) Tryz.f37.ntmps (fr [(1, (i64 st)), (2, (sli bw ow m cw)), (3, (pt b 0)), (7, (i64 (((i : Nat) : Int))))]) M .ret T1 M' ∧ [6].map T1.get = [some (i64 (-1))] ∧ Ext M M' ∧ MemOk M' := by
  obtain ⟨T1, h1, h2⟩ := Rd.told noNumP mixedP (specs_none Tryz.prog) (fun _ _ => rfl) (rd20_r1_raw b bw ow m cw i a n c a2 n2 c2 st z u M ) (hk (bT cc0) (hk (q_inb (by omega) (by have := of_decide_eq_true cc0; omega)) (hk (q_ld (aload_ext (Ext.refl M) hldw)) (hk (bF cc1) (hk (bF cc1) (hk (bF cc1) (hk (q_inb (by omega) (by have := of_decide_eq_true cc0; omega)) (hk (bF cc1) (hk (q_ld (aload_ext (Ext.refl M) hldw)) (hk (bF cc1) (hk (bF cc1) (hk (bT cc2) hn))))))))))))
  exact ⟨T1, M, h1, h2, (Ext.refl M), hM⟩
theorem rd20_n_raw (b bw ow m cw i bb o n c : Nat) (a2 : Option Addr) (n2 c2 : Nat) (st z u : Int) (M : Mem)  : oR Tryz.prog [] 40 Tryz.f37 (q37.loopAt 0) [(1, (i64 st)), (2, (sli bw ow m cw)), (3, (pt b 0)), (7, (i64 (((i : Nat) : Int))))] M [ttT 8, ttT 14, ttL 16 (i64 z), ttF 21, ttF 23, ttF 25, ttT 26, ttF 27, ttL 28 (i64 z), ttF 29, ttF 32, ttF 33, ttL 37 (sli bb o n c), ttT 45, ttL 47 (i64 z), ttT 49, ttT 51, ttL 53 (i64 u)] [1, 2, 3, 7] = some (.normal, [some (i64 u), some (sli bw ow m cw), some (pt b 0), some (i64 (IntKind.wrap .i64 ((((i : Nat) : Int)) + (1 : Int))))], M, [qT (decide ((((i : Nat) : Int)) < (((m : Nat) : Int)))), .q (.inb (((i : Nat) : Int)) m) (ansB true), qL 3 bw (ow + (((i : Nat) : Int) : Int).toNat * 1) M (i64 z), qF (decide (z < (0 : Int))), qF (decide (z < (0 : Int))), qF (decide (z < (0 : Int))), .q (.inb (((i : Nat) : Int)) m) (ansB true), qF (decide (z < (0 : Int))), qL 3 bw (ow + (((i : Nat) : Int) : Int).toNat * 1) M (i64 z), qF (decide (z < (0 : Int))), qF (decide (z < (0 : Int))), qF (decide (z ≥ (5 : Int))), qL 24 b 0 M (sli bb o n c), .q (.inb (((i : Nat) : Int)) m) (ansB true), qL 3 bw (ow + (((i : Nat) : Int) : Int).toNat * 1) M (i64 z), .q (.inb st n) (ansB true), .q (.inb z 5) (ansB true), qL 3 bb (o + (st : Int).toNat * 5 + (z : Int).toNat * 1) M (i64 u)]) := by kernel_rfl
theorem rd20_n (b bw ow m cw i bb o n c : Nat) (a2 : Option Addr) (n2 c2 : Nat) (st z u : Int) {M : Mem} (hM : MemOk M) (hldw : aload Tryz.prog 3 ⟨bw, ow + i * 1, none⟩ M = some (i64 z)) (ib1 : 0 ≤ st) (ib2 : st < ((n : Nat) : Int)) (ib3 : 0 ≤ z) (ib4 : z < 5) (hldu : aload Tryz.prog 3 ⟨bb, o + st.toNat * 5 + z.toNat * 1, none⟩ M = some (i64 u)) (hb : M.get b = some ⟨[(sli bb o n c), (.slice a2 n2 c2)], 27, 2, 0, true⟩) (cc0 : (decide ((((i : Nat) : Int)) < (((m : Nat) : Int)))) = true) (cc1 : (decide (z < (0 : Int))) = false) (cc2 : (decide (z ≥ (5 : Int))) = false) : ∃ T1 M', Rd Tryz.prog [] (q37.loopAt 0) Tryz.f37.ntmps (fr [(1, (i64 st)), (2, (sli bw ow m cw)), (3, (pt b 0)), (7, (i64 (((i : Nat) : Int))))]) M .normal T1 M' ∧ [1, 2, 3, 7].map T1.get = [some (i64 u), some (sli bw ow m cw), some (pt b 0), some (i64 (IntKind.wrap .i64 ((((i : Nat) : Int)) + (1 : Int))))] ∧ Ext M M' ∧ MemOk M' := by
  obtain ⟨T1, h1, h2⟩ := Rd.told noNumP mixedP (specs_none Tryz.prog) (fun _ _ => rfl) (rd20_n_raw b bw ow m cw i bb o n c a2 n2 c2 st z u M ) (hk (bT cc0) (hk (q_inb (by omega) (by have := of_decide_eq_true cc0; omega)) (hk (q_ld (aload_ext (Ext.refl M) hldw)) (hk (bF cc1) (hk (bF cc1) (hk (bF cc1) (hk (q_inb (by omega) (by have := of_decide_eq_true cc0; omega)) (hk (bF cc1) (hk (q_ld (aload_ext (Ext.refl M) hldw)) (hk (bF cc1) (hk (bF cc1) (hk (bF cc2) (hk (lC dC24 hb rfl) (hk (q_inb (by omega) (by have := of_decide_eq_true cc0; omega)) (hk (q_ld (aload_ext (Ext.refl M) hldw)) (hk (q_inb ib1 ib2) (hk (q_inb ib3 ib4) (hk (q_ld (aload_ext (Ext.refl M) hldu)) hn))))))))))))))))))
  exact ⟨T1, M, h1, h2, (Ext.refl M), hM⟩
theorem rd20_x_raw (b : Nat) (aw : Option Addr) (m cw i : Nat) (a : Option Addr) (n c : Nat) (a2 : Option Addr) (n2 c2 : Nat) (st z u : Int) (M : Mem)  : oR Tryz.prog [] 40 Tryz.f37 (q37.loopAt 0) [(1, (i64 st)), (2, (.slice aw m cw)), (3, (pt b 0)), (7, (i64 (((i : Nat) : Int))))] M [ttT 5, ttF 8] [1] = some ((.exit 0), [some (i64 st)], M, [.ln aw m cw, qF (decide ((((i : Nat) : Int)) < (((m : Nat) : Int))))]) := by kernel_rfl
theorem rd20_x (b : Nat) (aw : Option Addr) (m cw i : Nat) (a : Option Addr) (n c : Nat) (a2 : Option Addr) (n2 c2 : Nat) (st z u : Int) {M : Mem} (hM : MemOk M) (hlw : aw.isNone = true → m = 0 ∧ cw = 0) (hb : M.get b = some ⟨[(.slice a n c), (.slice a2 n2 c2)], 27, 2, 0, true⟩) (cc0 : (decide ((((i : Nat) : Int)) < (((m : Nat) : Int)))) = false) : ∃ T1 M', Rd Tryz.prog [] (q37.loopAt 0) Tryz.f37.ntmps (fr [(1, (i64 st)), (2, (.slice aw m cw)), (3, (pt b 0)), (7, (i64 (((i : Nat) : Int))))]) M (.exit 0) T1 M' ∧ [1].map T1.get = [some (i64 st)] ∧ Ext M M' ∧ MemOk M' := by
  obtain ⟨T1, h1, h2⟩ := Rd.told noNumP mixedP (specs_none Tryz.prog) (fun _ _ => rfl) (rd20_x_raw b aw m cw i a n c a2 n2 c2 st z u M ) (hk (lN hlw) (hk (bF cc0) hn))
  exact ⟨T1, M, h1, h2, (Ext.refl M), hM⟩
end Go.Proofs.YtchnlooenomfnaaGreatDoor

set_option linter.unusedVariables false
set_option linter.unusedSimpArgs false
open Go Go.Am Go.Proofs
namespace Go.Proofs.YtchnlooenomfnaaGreatDoor
set_option maxRecDepth 100000
theorem some_of {w : Nat} {M : Mem} {a : Option Addr} {n c : Nat} {l : List (List Int)} (hs : FlatAt w M (.slice a n c) l) (hl : 0 < l.length) : ∃ bb o, a = some ⟨bb, o, none⟩ := by
  rcases id hs.at_ with ⟨_, _, h0⟩ | ⟨bb, o, c', blk, pre, post, e1, _⟩
  · omega
  · exact ⟨bb, o, by simp only [Value.slice.injEq] at e1; exact e1.1⟩
theorem loop20 {l1 : List (List Int)} {a : Option Addr} {c : Nat} {ws : List Int} {aw : Option Addr} {cw : Nat} (b : Nat) (a2 : Option Addr) (n2 c2 : Nat) (hg : l1.any (badR ((l1.length : Nat) : Int)) = false) : ∀ (k i : Nat), i + k = ws.length → ∀ (st : Int) {M : Mem}, noneB st ((l1.length : Nat) : Int) = false → MemOk M → FlatAt 5 M (.slice a l1.length c) l1 → FlatAt 1 M (.slice aw ws.length cw) (ws.map ([·])) → M.get b = some ⟨[.slice a l1.length c, .slice a2 n2 c2], 27, 2, 0, true⟩ →
    ∃ M' e T', Go.Am.Ext M M' ∧ LoopR Tryz.prog [] (q37.loopAt 0) Tryz.f37.ntmps (fr [(1, i64 st), (2, .slice aw ws.length cw), (3, pt b 0), (7, i64 ((i : Nat) : Int))]) M e T' M' ∧
      ((goL l1 st (ws.drop i) = none ∧ e = .ret ∧ T' = fr [(6, i64 (-1))]) ∨ (∃ s, goL l1 st (ws.drop i) = some s ∧ e = .exit 0 ∧ T' = fr [(1, i64 s)])) := by
  intro k
  induction k with
  | zero =>
    intro i hi st M hst hM hs hw hb
    obtain ⟨T1, M1, h1, h2, h3, h4⟩ := rd20_x b aw ws.length cw i a l1.length c a2 n2 c2 st 0 0 hM hw.ln hb (decide_eq_false (by omega))
    refine ⟨M1, _, _, h3, LoopR.stop h1 (by simp) (TSub.fr (l := [(1, i64 st)]) h2), .inr ⟨st, ?_, rfl, rfl⟩⟩
    rw [List.drop_eq_nil_of_le (by omega)]; rfl
  | succ k ih =>
    intro i hi st M hst hM hs hw hb
    have hlt : i < ws.length := by omega
    have hlen : ws.length ≤ 9223372036854775807 := by have := hw.len; rw [List.length_map] at this; exact this
    obtain ⟨bw, ow, rfl, hld⟩ := one_at hw (by omega)
    have hc : decide ((((i : Nat) : Int)) < (((ws.length : Nat) : Int))) = true := decide_eq_true (by omega)
    have hdrop : ws.drop i = ws[i] :: ws.drop (i + 1) := List.drop_eq_getElem_cons hlt
    rw [hdrop]
    have c1 := hst
    cases c2' : noneB ws[i] (5 : Int) with
    | true =>
      have hz : ws[i] < 0 ∨ ¬ ws[i] < 0 ∧ ws[i] ≥ 5 := by simp [noneB] at c2'; omega
      rcases hz with hz | ⟨hz, hz2⟩
      · obtain ⟨T1, M1, h1, h2, h3, h4⟩ := rd20_r0 b bw ow ws.length cw i a l1.length c a2 n2 c2 st ws[i] 0 hM (hld i hlt) hb hc (decide_eq_true hz)
        refine ⟨M1, _, _, h3, LoopR.stop h1 (by simp) (TSub.fr (l := [(6, i64 (-1))]) h2), .inl ⟨?_, rfl, rfl⟩⟩
        simp only [goL, c1, c2', Bool.or_true, cond_true]
      · obtain ⟨T1, M1, h1, h2, h3, h4⟩ := rd20_r1 b bw ow ws.length cw i a l1.length c a2 n2 c2 st ws[i] 0 hM (hld i hlt) hb hc (decide_eq_false hz) (decide_eq_true hz2)
        refine ⟨M1, _, _, h3, LoopR.stop h1 (by simp) (TSub.fr (l := [(6, i64 (-1))]) h2), .inl ⟨?_, rfl, rfl⟩⟩
        simp only [goL, c1, c2', Bool.or_true, cond_true]
    | false =>
      obtain ⟨a1, a2'⟩ := noneB_false c1
      obtain ⟨z1, z2⟩ := noneB_false c2'
      obtain ⟨bb, o, rfl⟩ := some_of hs (by omega)
      obtain ⟨T1, M1, h1, h2, h3, h4⟩ := rd20_n b bw ow ws.length cw i bb o l1.length c a2 n2 c2 st ws[i] (cellAt l1 st ws[i]) hM (hld i hlt) a1 a2' z1 z2 (load_dfa hs c1 c2') hb hc (decide_eq_false (by omega)) (decide_eq_false (by omega))
      rw [wrap_succ (by omega)] at h2
      obtain ⟨M2, e, T', q1, q2, q3⟩ := ih (i + 1) (by omega) (cellAt l1 st ws[i]) (good_cell hg hs.wide c1 c2') h4 (hs.Ext h3) (hw.Ext h3) (h3.old hb)
      refine ⟨M2, e, T', h3.trans q1, LoopR.step h1 (TSub.fr (l := [(1, i64 (cellAt l1 st ws[i])), (2, .slice (some ⟨bw, ow, none⟩) ws.length cw), (3, pt b 0), (7, i64 (((i + 1) : Nat) : Int))]) h2) q2, ?_⟩
      simp only [goL, c1, c2', Bool.or_false, cond_false]
      exact q3
theorem loop20_0 {l1 : List (List Int)} {a : Option Addr} {c : Nat} {ws : List Int} {aw : Option Addr} {cw : Nat} (b : Nat) (a2 : Option Addr) (n2 c2 : Nat) (st : Int) {M : Mem} (hM : MemOk M) (hs : FlatAt 5 M (.slice a l1.length c) l1) (hw : FlatAt 1 M (.slice aw ws.length cw) (ws.map ([·]))) (hb : M.get b = some ⟨[.slice a l1.length c, .slice a2 n2 c2], 27, 2, 0, true⟩) (hg : l1.any (badR ((l1.length : Nat) : Int)) = false) (hst : noneB st ((l1.length : Nat) : Int) = false) :
    ((goL l1 st ws).isNone = true → ∃ M', LoopR Tryz.prog [] (q37.loopAt 0) Tryz.f37.ntmps (fr [(1, i64 st), (2, .slice aw ws.length cw), (3, pt b 0), (7, i64 0)]) M .ret (fr [(6, i64 (-1))]) M' ∧ Go.Am.Ext M M' ∧ MemOk M') ∧
    ((goL l1 st ws).isNone = false → ∃ M', LoopR Tryz.prog [] (q37.loopAt 0) Tryz.f37.ntmps (fr [(1, i64 st), (2, .slice aw ws.length cw), (3, pt b 0), (7, i64 0)]) M (.exit 0) (fr [(1, i64 ((goL l1 st ws).getD 0))]) M' ∧ Go.Am.Ext M M' ∧ MemOk M') := by
  obtain ⟨M', e, T', h1, h2, h3⟩ := loop20 b a2 n2 c2 hg ws.length 0 (by omega) st hst hM hs hw hb
  rw [List.drop_zero] at h3
  rcases h3 with ⟨h3, rfl, rfl⟩ | ⟨s, h3, rfl, rfl⟩ <;> rw [h3]
  · exact ⟨fun _ => ⟨M', h2, h1, hM.ext h1⟩, fun h => by simp at h⟩
  · exact ⟨fun h => by simp at h, fun _ => ⟨M', h2, h1, hM.ext h1⟩⟩
theorem rK20 : Tryz.f37.results = #[.tmp 6] := by kernel_rfl
theorem w20_0_raw (a1 : Option Addr) (c1 : Nat) (a2 : Option Addr) (c2 : Nat) (l1 : List (List Int)) (l2 : List Bool) (st : Int) (aw : Option Addr) (cw : Nat) (ws : List Int)  (M : Mem) (b1 : Nat) (M2 : Mem) (M9 : Mem) : oT Tryz.prog [0] 40 Tryz.f37 q37 [(.agg ⟨[(.slice a1 l1.length c1), (.slice a2 l2.length c2)]⟩), i64 st, (.slice aw ws.length cw)] M [ttV 1 (pt b1 0) M2, ttF 10, ttF 12, ttF 14, ttL 15 (.slice a1 l1.length c1), ttF 16, ttT 17, ttF 18, ttF 21, ttF 22, .blk 25 [1, 2, 3, 7] .ret (fr [(6, (i64 (-1)))]) M9] 6 = some (.ret, some (i64 (-1)), M9, [.eq (abox Tryz.prog 27 (.agg ⟨[(.slice a1 l1.length c1), (.slice a2 l2.length c2)]⟩) M) (1, .val (pt b1 0), M2), qF (decide (st < (0 : Int))), qF (decide (st < (0 : Int))), qF (decide (st < (0 : Int))), qL 24 b1 0 M2 (.slice a1 l1.length c1), qF (decide (st < (0 : Int))), .ln a1 l1.length c1, qF (decide (st < (0 : Int))), qF (decide (st < (0 : Int))), qF (decide (st ≥ (((l1.length : Nat) : Int)))), .blk 0 (.loop (q37.loopAt 0)) Tryz.f37.ntmps [1, 2, 3, 7] [some (i64 st), some (.slice aw ws.length cw), some (pt b1 0), some (i64 0)] M2 .ret (fr [(6, (i64 (-1)))]) M9]) := by kernel_rfl
theorem w20_0 (a1 : Option Addr) (c1 : Nat) (a2 : Option Addr) (c2 : Nat) (l1 : List (List Int)) (l2 : List Bool) (st : Int) (aw : Option Addr) (cw : Nat) (ws : List Int)  {M : Mem} (hM : MemOk M) (hs1 : FlatAt 5 M (.slice a1 l1.length c1) l1) (hs2 : BoolsAt M (.slice a2 l2.length c2) l2) (hw : FlatAt 1 M (.slice aw ws.length cw) (ws.map ([·]))) (hg : l1.any (badR ((l1.length : Nat) : Int)) = false) (hst : noneB st ((l1.length : Nat) : Int) = false) (cc0 : ((goL l1 st ws).isNone) = true) : ∃ M', Ev Tryz.prog [] 37 [(.agg ⟨[(.slice a1 l1.length c1), (.slice a2 l2.length c2)]⟩), i64 st, (.slice aw ws.length cw)] M (i64 (-1)) M' ∧ Ext M M' := by
  obtain ⟨b1, M2, eb3, em4, g5, E6, hM7⟩ := new_t hM ⟨[(.slice a1 l1.length c1), (.slice a2 l2.length c2)], 27, 2, 0, true⟩
  have nb1 : M.next ≤ b1 := by rw [← eb3]; exact (Ext.refl M).next
  have X8 := (Ext.refl M).trans E6
  obtain ⟨M9, hL10, E11, hM12⟩ := (loop20_0 b1 a2 l2.length c2 st hM7 (hs1.Ext X8) (hw.Ext X8) g5 hg hst).1 cc0
  have g13 := E11.old g5
  have X14 := X8.trans E11
  exact ⟨M9, Ev.told_tmp noNumP mixedP Tryz.func37 q37_ok (by kernel_rfl) rK20 (fun B => specsB_ok (l := []) (fun p hp => by cases hp) (k := [(0, bone (.loop (q37.loopAt 0)) Tryz.f37.ntmps [1, 2, 3, 7] [some (i64 st), some (.slice aw ws.length cw), some (pt b1 0), some (i64 0)] M2 .ret (fr [(6, (i64 (-1)))]) M9)]) (fun p hp => by simp only [List.mem_cons, List.not_mem_nil, or_false] at hp; rcases hp with rfl <;> first | exact BlkOk.loop noNumP mixedP hL10)) (fun _ h => blksF_one h) (w20_0_raw a1 c1 a2 c2 l1 l2 st aw cw ws M b1 M2 M9) (hk (q_eq (by rw [← eb3, ← em4]; kernel_rfl) Nat.one_ne_zero) (hk (bF (decide_eq_false (by have := noneB_false hst; omega))) (hk (bF (decide_eq_false (by have := noneB_false hst; omega))) (hk (bF (decide_eq_false (by have := noneB_false hst; omega))) (hk (lC dC24 g5 rfl) (hk (bF (decide_eq_false (by have := noneB_false hst; omega))) (hk (lN hs1.ln) (hk (bF (decide_eq_false (by have := noneB_false hst; omega))) (hk (bF (decide_eq_false (by have := noneB_false hst; omega))) (hk (bF (decide_eq_false (by have := noneB_false hst; omega))) (hk (q_blk rfl) hn))))))))))), X14⟩
theorem w20_1_raw (a1 : Option Addr) (c1 : Nat) (a2 : Option Addr) (c2 : Nat) (l1 : List (List Int)) (l2 : List Bool) (st : Int) (aw : Option Addr) (cw : Nat) (ws : List Int)  (M : Mem) (b1 : Nat) (M2 : Mem) (M9 : Mem) : oT Tryz.prog [0] 40 Tryz.f37 q37 [(.agg ⟨[(.slice a1 l1.length c1), (.slice a2 l2.length c2)]⟩), i64 st, (.slice aw ws.length cw)] M [ttV 1 (pt b1 0) M2, ttF 10, ttF 12, ttF 14, ttL 15 (.slice a1 l1.length c1), ttF 16, ttT 17, ttF 18, ttF 21, ttF 22, .blk 25 [1, 2, 3, 7] .normal (fr [(1, (i64 ((goL l1 st ws).getD 0)))]) M9] 6 = some (.ret, some (i64 ((goL l1 st ws).getD 0)), M9, [.eq (abox Tryz.prog 27 (.agg ⟨[(.slice a1 l1.length c1), (.slice a2 l2.length c2)]⟩) M) (1, .val (pt b1 0), M2), qF (decide (st < (0 : Int))), qF (decide (st < (0 : Int))), qF (decide (st < (0 : Int))), qL 24 b1 0 M2 (.slice a1 l1.length c1), qF (decide (st < (0 : Int))), .ln a1 l1.length c1, qF (decide (st < (0 : Int))), qF (decide (st < (0 : Int))), qF (decide (st ≥ (((l1.length : Nat) : Int)))), .blk 0 (.loop (q37.loopAt 0)) Tryz.f37.ntmps [1, 2, 3, 7] [some (i64 st), some (.slice aw ws.length cw), some (pt b1 0), some (i64 0)] M2 .normal (fr [(1, (i64 ((goL l1 st ws).getD 0)))]) M9]) := by kernel_rfl
theorem w20_1 (a1 : Option Addr) (c1 : Nat) (a2 : Option Addr) (c2 : Nat) (l1 : List (List Int)) (l2 : List Bool) (st : Int) (aw : Option Addr) (cw : Nat) (ws : List Int)  {M : Mem} (hM : MemOk M) (hs1 : FlatAt 5 M (.slice a1 l1.length c1) l1) (hs2 : BoolsAt M (.slice a2 l2.length c2) l2) (hw : FlatAt 1 M (.slice aw ws.length cw) (ws.map ([·]))) (hg : l1.any (badR ((l1.length : Nat) : Int)) = false) (hst : noneB st ((l1.length : Nat) : Int) = false) (cc0 : ((goL l1 st ws).isNone) = false) : ∃ M', Ev Tryz.prog [] 37 [(.agg ⟨[(.slice a1 l1.length c1), (.slice a2 l2.length c2)]⟩), i64 st, (.slice aw ws.length cw)] M (i64 ((goL l1 st ws).getD 0)) M' ∧ Ext M M' := by
  obtain ⟨b1, M2, eb3, em4, g5, E6, hM7⟩ := new_t hM ⟨[(.slice a1 l1.length c1), (.slice a2 l2.length c2)], 27, 2, 0, true⟩
  have nb1 : M.next ≤ b1 := by rw [← eb3]; exact (Ext.refl M).next
  have X8 := (Ext.refl M).trans E6
  obtain ⟨M9, hL10, E11, hM12⟩ := (loop20_0 b1 a2 l2.length c2 st hM7 (hs1.Ext X8) (hw.Ext X8) g5 hg hst).2 cc0
  have g13 := E11.old g5
  have X14 := X8.trans E11
  exact ⟨M9, Ev.told_tmp noNumP mixedP Tryz.func37 q37_ok (by kernel_rfl) rK20 (fun B => specsB_ok (l := []) (fun p hp => by cases hp) (k := [(0, bone (.loop (q37.loopAt 0)) Tryz.f37.ntmps [1, 2, 3, 7] [some (i64 st), some (.slice aw ws.length cw), some (pt b1 0), some (i64 0)] M2 .normal (fr [(1, (i64 ((goL l1 st ws).getD 0)))]) M9)]) (fun p hp => by simp only [List.mem_cons, List.not_mem_nil, or_false] at hp; rcases hp with rfl <;> first | exact BlkOk.loop noNumP mixedP hL10)) (fun _ h => blksF_one h) (w20_1_raw a1 c1 a2 c2 l1 l2 st aw cw ws M b1 M2 M9) (hk (q_eq (by rw [← eb3, ← em4]; kernel_rfl) Nat.one_ne_zero) (hk (bF (decide_eq_false (by have := noneB_false hst; omega))) (hk (bF (decide_eq_false (by have := noneB_false hst; omega))) (hk (bF (decide_eq_false (by have := noneB_false hst; omega))) (hk (lC dC24 g5 rfl) (hk (bF (decide_eq_false (by have := noneB_false hst; omega))) (hk (lN hs1.ln) (hk (bF (decide_eq_false (by have := noneB_false hst; omega))) (hk (bF (decide_eq_false (by have := noneB_false hst; omega))) (hk (bF (decide_eq_false (by have := noneB_false hst; omega))) (hk (q_blk rfl) hn))))))))))), X14⟩
theorem goF_good {l1 : List (List Int)} {st : Int} {ws : List Int} (hg : l1.any (badR ((l1.length : Nat) : Int)) = false) (hw : ∀ r ∈ l1, r.length = 5) (hst : noneB st ((l1.length : Nat) : Int) = false) : goF l1 st ws = bif (goL l1 st ws).isNone then (-1 : Int) else ((goL l1 st ws).getD 0) := by
  unfold goF
  cases h : goL l1 st ws with
  | none => rfl
  | some s =>
    have := goL_good hg hw ws st s hst h
    simp [this]
theorem w20_all (a1 : Option Addr) (c1 : Nat) (a2 : Option Addr) (c2 : Nat) (l1 : List (List Int)) (l2 : List Bool) (st : Int) (aw : Option Addr) (cw : Nat) (ws : List Int) {M : Mem} (hM : MemOk M) (hs1 : FlatAt 5 M (.slice a1 l1.length c1) l1) (hs2 : BoolsAt M (.slice a2 l2.length c2) l2) (hw : FlatAt 1 M (.slice aw ws.length cw) (ws.map ([·]))) (hg : l1.any (badR ((l1.length : Nat) : Int)) = false) (hst : noneB st ((l1.length : Nat) : Int) = false) : ∃ M', Ev Tryz.prog [] 37 [(.agg ⟨[(.slice a1 l1.length c1), (.slice a2 l2.length c2)]⟩), i64 st, (.slice aw ws.length cw)] M (i64 (bif (goL l1 st ws).isNone then (-1 : Int) else ((goL l1 st ws).getD 0))) M' ∧ Ext M M' := by
  cases cc0 : ((goL l1 st ws).isNone) with
  | true =>
    have h := w20_0 a1 c1 a2 c2 l1 l2 st aw cw ws hM hs1 hs2 hw hg hst cc0
    first | exact h | (have e : ((i64 (bif (goL l1 st ws).isNone then (-1 : Int) else ((goL l1 st ws).getD 0))) : Value) = (i64 (-1)) := (by simp only [goF, cc0, cond_true, cond_false, Bool.true_and, Bool.false_and, Bool.and_true, Bool.and_false, Bool.true_or, Bool.false_or, Bool.or_true, Bool.or_false, Bool.not_true, Bool.not_false] <;> rfl); rw [e]; exact h)
  | false =>
    have h := w20_1 a1 c1 a2 c2 l1 l2 st aw cw ws hM hs1 hs2 hw hg hst cc0
    first | exact h | (have e : ((i64 (bif (goL l1 st ws).isNone then (-1 : Int) else ((goL l1 st ws).getD 0))) : Value) = (i64 ((goL l1 st ws).getD 0)) := (by simp only [goF, cc0, cond_true, cond_false, Bool.true_and, Bool.false_and, Bool.and_true, Bool.and_false, Bool.true_or, Bool.false_or, Bool.or_true, Bool.or_false, Bool.not_true, Bool.not_false] <;> rfl); rw [e]; exact h)
theorem w20_b0_raw (a1 : Option Addr) (c1 : Nat) (a2 : Option Addr) (c2 : Nat) (l1 : List (List Int)) (l2 : List Bool) (st : Int) (aw : Option Addr) (cw : Nat) (ws : List Int)  (M : Mem) (b1 : Nat) (M2 : Mem) : oT Tryz.prog [] 40 Tryz.f37 q37 [(.agg ⟨[(.slice a1 l1.length c1), (.slice a2 l2.length c2)]⟩), i64 st, (.slice aw ws.length cw)] M [ttV 1 (pt b1 0) M2, ttT 10, ttT 12, ttT 14, ttT 16, ttT 18, ttT 21] 6 = some (.ret, some (i64 (-1)), M2, [.eq (abox Tryz.prog 27 (.agg ⟨[(.slice a1 l1.length c1), (.slice a2 l2.length c2)]⟩) M) (1, .val (pt b1 0), M2), qT (decide (st < (0 : Int))), qT (decide (st < (0 : Int))), qT (decide (st < (0 : Int))), qT (decide (st < (0 : Int))), qT (decide (st < (0 : Int))), qT (decide (st < (0 : Int)))]) := by kernel_rfl
theorem w20_b0 (a1 : Option Addr) (c1 : Nat) (a2 : Option Addr) (c2 : Nat) (l1 : List (List Int)) (l2 : List Bool) (st : Int) (aw : Option Addr) (cw : Nat) (ws : List Int)  {M : Mem} (hM : MemOk M) (hs1 : FlatAt 5 M (.slice a1 l1.length c1) l1) (hs2 : BoolsAt M (.slice a2 l2.length c2) l2) (hw : FlatAt 1 M (.slice aw ws.length cw) (ws.map ([·]))) (cc0 : (decide (st < (0 : Int))) = true) : ∃ M', Ev Tryz.prog [] 37 [(.agg ⟨[(.slice a1 l1.length c1), (.slice a2 l2.length c2)]⟩), i64 st, (.slice aw ws.length cw)] M (i64 (-1)) M' ∧ Ext M M' := by
  obtain ⟨b1, M2, eb3, em4, g5, E6, hM7⟩ := new_t hM ⟨[(.slice a1 l1.length c1), (.slice a2 l2.length c2)], 27, 2, 0, true⟩
  have nb1 : M.next ≤ b1 := by rw [← eb3]; exact (Ext.refl M).next
  have X8 := (Ext.refl M).trans E6
  exact ⟨M2, Ev.told_tmp noNumP mixedP Tryz.func37 q37_ok (by kernel_rfl) rK20 (specs_none Tryz.prog) (fun _ _ => rfl) (w20_b0_raw a1 c1 a2 c2 l1 l2 st aw cw ws M b1 M2) (hk (q_eq (by rw [← eb3, ← em4]; kernel_rfl) Nat.one_ne_zero) (hk (bT cc0) (hk (bT cc0) (hk (bT cc0) (hk (bT cc0) (hk (bT cc0) (hk (bT cc0) hn))))))), X8⟩
theorem w20_b1_raw (a1 : Option Addr) (c1 : Nat) (a2 : Option Addr) (c2 : Nat) (l1 : List (List Int)) (l2 : List Bool) (st : Int) (aw : Option Addr) (cw : Nat) (ws : List Int)  (M : Mem) (b1 : Nat) (M2 : Mem) : oT Tryz.prog [] 40 Tryz.f37 q37 [(.agg ⟨[(.slice a1 l1.length c1), (.slice a2 l2.length c2)]⟩), i64 st, (.slice aw ws.length cw)] M [ttV 1 (pt b1 0) M2, ttF 10, ttF 12, ttF 14, ttL 15 (.slice a1 l1.length c1), ttF 16, ttT 17, ttF 18, ttF 21, ttT 22] 6 = some (.ret, some (i64 (-1)), M2, [.eq (abox Tryz.prog 27 (.agg ⟨[(.slice a1 l1.length c1), (.slice a2 l2.length c2)]⟩) M) (1, .val (pt b1 0), M2), qF (decide (st < (0 : Int))), qF (decide (st < (0 : Int))), qF (decide (st < (0 : Int))), qL 24 b1 0 M2 (.slice a1 l1.length c1), qF (decide (st < (0 : Int))), .ln a1 l1.length c1, qF (decide (st < (0 : Int))), qF (decide (st < (0 : Int))), qT (decide (st ≥ (((l1.length : Nat) : Int))))]) := by kernel_rfl
theorem w20_b1 (a1 : Option Addr) (c1 : Nat) (a2 : Option Addr) (c2 : Nat) (l1 : List (List Int)) (l2 : List Bool) (st : Int) (aw : Option Addr) (cw : Nat) (ws : List Int)  {M : Mem} (hM : MemOk M) (hs1 : FlatAt 5 M (.slice a1 l1.length c1) l1) (hs2 : BoolsAt M (.slice a2 l2.length c2) l2) (hw : FlatAt 1 M (.slice aw ws.length cw) (ws.map ([·]))) (cc0 : (decide (st < (0 : Int))) = false) (cc1 : (decide (st ≥ (((l1.length : Nat) : Int)))) = true) : ∃ M', Ev Tryz.prog [] 37 [(.agg ⟨[(.slice a1 l1.length c1), (.slice a2 l2.length c2)]⟩), i64 st, (.slice aw ws.length cw)] M (i64 (-1)) M' ∧ Ext M M' := by
  obtain ⟨b1, M2, eb3, em4, g5, E6, hM7⟩ := new_t hM ⟨[(.slice a1 l1.length c1), (.slice a2 l2.length c2)], 27, 2, 0, true⟩
  have nb1 : M.next ≤ b1 := by rw [← eb3]; exact (Ext.refl M).next
  have X8 := (Ext.refl M).trans E6
  exact ⟨M2, Ev.told_tmp noNumP mixedP Tryz.func37 q37_ok (by kernel_rfl) rK20 (specs_none Tryz.prog) (fun _ _ => rfl) (w20_b1_raw a1 c1 a2 c2 l1 l2 st aw cw ws M b1 M2) (hk (q_eq (by rw [← eb3, ← em4]; kernel_rfl) Nat.one_ne_zero) (hk (bF cc0) (hk (bF cc0) (hk (bF cc0) (hk (lC dC24 g5 rfl) (hk (bF cc0) (hk (lN hs1.ln) (hk (bF cc0) (hk (bF cc0) (hk (bT cc1) hn)))))))))), X8⟩
theorem goF_none {l1 : List (List Int)} {st : Int} {ws : List Int} (hst : noneB st ((l1.length : Nat) : Int) = true) : goF l1 st ws = -1 := by
  unfold goF
  cases ws with
  | nil => simp [goL, hst]
  | cons z w => simp [goL, hst]
def Qgo : List Value → Mem → Value → Mem → Prop := fun args M v _ => ∃ x l1 l2 st L ws, args = [x, i64 st, L] ∧ DfaAt M x l1 l2 ∧ FlatAt 1 M L (ws.map ([·])) ∧ v = i64 (goF l1 st ws)
theorem Qgo.val {x L : Value} {l1 : List (List Int)} {l2 : List Bool} {st : Int} {ws : List Int} {M M' : Mem} {v : Value} (h : DfaAt M x l1 l2) (hw : FlatAt 1 M L (ws.map ([·]))) (hq : Qgo [x, i64 st, L] M v M') : v = i64 (goF l1 st ws) := by
  obtain ⟨x', l1', l2', st', L', ws', h1, h2, h3, rfl⟩ := hq
  simp only [List.cons.injEq, and_true] at h1
  obtain ⟨rfl, e1, rfl⟩ := h1
  have e1 : st = st' := by simpa [i64] using e1
  obtain ⟨rfl, rfl⟩ := h.unique h2
  have e2 := one_inj (hw.unique h3)
  rw [e1, e2]
theorem con37 {x : Value} {l1 : List (List Int)} {l2 : List Bool} (st : Int) {aw : Option Addr} {cw : Nat} {ws : List Int} {M : Mem} (hM : MemOk M) (h : DfaAt M x l1 l2) (hw : FlatAt 1 M (.slice aw ws.length cw) (ws.map ([·]))) (hg : l1.any (badR ((l1.length : Nat) : Int)) = false) : ∃ v M', Con Tryz.prog [] 37 Qgo [x, i64 st, .slice aw ws.length cw] M v M' := by
  have h0 := h
  obtain ⟨L1, L2, rfl, h2, h3⟩ := h.at_
  obtain ⟨a1, c1, rfl⟩ := h2.form
  obtain ⟨a2, c2, rfl⟩ := h3.form
  cases hst : noneB st ((l1.length : Nat) : Int) with
  | false =>
    obtain ⟨M', k1, k2⟩ := w20_all a1 c1 a2 c2 l1 l2 st aw cw ws hM h2 h3 hw hg hst
    exact ⟨_, M', k1, k2, _, l1, l2, st, _, ws, rfl, h0, hw, by rw [goF_good hg h2.wide hst]⟩
  | true =>
    have hr := goF_none (ws := ws) hst
    have hz : st < 0 ∨ ¬ st < 0 ∧ st ≥ ((l1.length : Nat) : Int) := by simp [noneB] at hst; omega
    rcases hz with hz | ⟨hz, hz2⟩
    · obtain ⟨M', k1, k2⟩ := w20_b0 a1 c1 a2 c2 l1 l2 st aw cw ws hM h2 h3 hw (decide_eq_true hz)
      exact ⟨_, M', k1, k2, _, l1, l2, st, _, ws, rfl, h0, hw, by rw [hr]⟩
    · obtain ⟨M', k1, k2⟩ := w20_b1 a1 c1 a2 c2 l1 l2 st aw cw ws hM h2 h3 hw (decide_eq_false hz) (decide_eq_true hz2)
      exact ⟨_, M', k1, k2, _, l1, l2, st, _, ws, rfl, h0, hw, by rw [hr]⟩
end Go.Proofs.YtchnlooenomfnaaGreatDoor

set_option linter.unusedVariables false
set_option linter.unusedSimpArgs false
open Go Go.Am Go.Proofs
namespace Go.Proofs.YtchnlooenomfnaaGreatDoor
set_option maxRecDepth 100000
end Go.Proofs.YtchnlooenomfnaaGreatDoor
