/-
  DfaFlat: with all states turned to accept what they did not a machine takes just what it did not
-/
import Derived.Test.YtepgijgmnijdpaaDoorGDT
open Go Go.Am Go.Proofs
namespace Go.Proofs.YtepgijgmnijdpaaDoor
set_option maxRecDepth 100000
def cellAt (l1 : List (List Int)) (st z : Int) : Int := (((l1[st.toNat]?).getD [])[z.toNat]?).getD 0
def goL (l1 : List (List Int)) (st : Int) : List Int → Option Int
  | [] => some st
  | z :: w => bif noneB st ((l1.length : Nat) : Int) || noneB z (5 : Int) then none else goL l1 (cellAt l1 st z) w
def goF (l1 : List (List Int)) (st : Int) (ws : List Int) : Int := bif (goL l1 st ws).isNone then (-1 : Int) else bif noneB ((goL l1 st ws).getD 0) ((l1.length : Nat) : Int) then (-1 : Int) else ((goL l1 st ws).getD 0)
theorem noneB_false {s n : Int} (h : noneB s n = false) : 0 ≤ s ∧ s < n := by
  simp [noneB] at h
  omega
theorem load_dfa {M : Mem} {b o c : Nat} {l1 : List (List Int)} {st z : Int} (h : FlatAt 5 M (.slice (some ⟨b, o, none⟩) l1.length c) l1) (h1 : noneB st ((l1.length : Nat) : Int) = false) (h2 : noneB z (5 : Int) = false) :
    aload Tryd.prog 3 ⟨b, o + st.toNat * 5 + z.toNat * 1, none⟩ M = some (i64 (cellAt l1 st z)) := by
  obtain ⟨a1, a2⟩ := noneB_false h1
  obtain ⟨b1, b2⟩ := noneB_false h2
  have hi : l1[st.toNat]? = some l1[st.toNat] := List.getElem?_eq_getElem (by omega)
  have hw := h.wide _ (List.getElem_mem (show st.toNat < l1.length by omega))
  have hj : l1[st.toNat][z.toNat]? = some (l1[st.toNat][z.toNat]'(by omega)) := List.getElem?_eq_getElem (by omega)
  have := load_flat_cell (P := Tryd.prog) (ty := 3) h hi hj dC3
  rw [Nat.mul_one, this]
  simp only [cellAt, hi, Option.getD_some, hj]
theorem good_cell {l1 : List (List Int)} {st z : Int} (hg : l1.any (badR ((l1.length : Nat) : Int)) = false) (hw : ∀ r ∈ l1, r.length = 5) (h1 : noneB st ((l1.length : Nat) : Int) = false) (h2 : noneB z (5 : Int) = false) : noneB (cellAt l1 st z) ((l1.length : Nat) : Int) = false := by
  obtain ⟨a1, a2⟩ := noneB_false h1
  obtain ⟨b1, b2⟩ := noneB_false h2
  have hi : l1[st.toNat]? = some l1[st.toNat] := List.getElem?_eq_getElem (by omega)
  have hm := List.getElem_mem (show st.toNat < l1.length by omega)
  have hw' := hw _ hm
  have hj : l1[st.toNat][z.toNat]? = some (l1[st.toNat][z.toNat]'(by omega)) := List.getElem?_eq_getElem (by omega)
  have h3 := List.any_eq_false.1 hg _ hm
  simp only [cellAt, hi, Option.getD_some, hj]
  have h4 : badR ((l1.length : Nat) : Int) l1[st.toNat] = false := by simpa using h3
  have h5 := List.any_eq_false.1 h4 _ (List.getElem_mem (show z.toNat < l1[st.toNat].length by omega))
  simpa using h5
theorem hS19_32 (B : Bd) : ∀ p ∈ ([(32, pick (Con Tryd.prog [] 32 (Fl g32)))] : List (FuncId × (List Value → Mem → Option (Value × Mem)))), SpecOk Tryd.prog [] B p.1 p.2 := (fun p hp => by simp only [List.mem_cons, List.not_mem_nil, or_false] at hp; rcases hp with rfl <;> first | exact Con.ok _)
theorem rd19_r0_raw (b bw ow m cw i : Nat) (_ : Option Addr) (n _ : Nat) (_ : Option Addr) (_ _ : Nat) (st z _ : Int) (M : Mem) (M3 : Mem) : oR Tryd.prog [] 40 Tryd.f19 (q19.loopAt 0) [(1, (i64 st)), (3, (pt b 0)), (7, (i64 (((n : Nat) : Int)))), (13, (sli bw ow m cw)), (14, (i64 (((m : Nat) : Int)))), (15, (i64 (((i : Nat) : Int))))] M [ttT 2, ttT 4, ttL 6 (i64 z), ttV 14 (.bool (noneB st (((n : Nat) : Int)))) M3, ttT 17, ttT 19, ttT 22] [6] = some (.ret, [some (i64 (-1))], M3, [qT (decide ((((i : Nat) : Int)) < (((m : Nat) : Int)))), .q (.inb (((i : Nat) : Int)) m) (ansB true), qL 3 bw (ow + (((i : Nat) : Int) : Int).toNat * 1) M (i64 z), qC 32 [(i64 st), (i64 (((n : Nat) : Int)))] M (.bool (noneB st (((n : Nat) : Int)))) M3, qT (noneB st (((n : Nat) : Int))), qT (noneB st (((n : Nat) : Int))), qT (noneB st (((n : Nat) : Int)))]) := by kernel_rfl
theorem rd19_r0 (b bw ow m cw i : Nat) (a : Option Addr) (n c : Nat) (a2 : Option Addr) (n2 c2 : Nat) (st z u : Int) {M : Mem} (hM : MemOk M) (hldw : aload Tryd.prog 3 ⟨bw, ow + i * 1, none⟩ M = some (i64 z)) (hb : M.get b = some ⟨[(.slice a n c), (.slice a2 n2 c2)], 25, 2, 0, true⟩) (cc0 : (decide ((((i : Nat) : Int)) < (((m : Nat) : Int)))) = true) (cc1 : (noneB st (((n : Nat) : Int))) = true) : ∃ T1 M', Rd Tryd.prog [] (q19.loopAt 0) Tryd.f19.ntmps (fr [(1, (i64 st)), (3, (pt b 0)), (7, (i64 (((n : Nat) : Int)))), (13, (sli bw ow m cw)), (14, (i64 (((m : Nat) : Int)))), (15, (i64 (((i : Nat) : Int))))]) M .ret T1 M' ∧ [6].map T1.get = [some (i64 (-1))] ∧ Ext M M' ∧ MemOk M' := by
  obtain ⟨w1, N2, M3, p4, l5, e6, E7, hM8, Q9, G10⟩ := call_t (P := Tryd.prog) (GL := []) (f := 32) hM (con32 st (((n : Nat) : Int)) (MemOk.log hM))
  have g11 := E7.old hb
  have ew1 : w1 = (.bool (noneB st (((n : Nat) : Int)))) := (Option.some.inj Q9).symm
  subst ew1
  have X12 := (Ext.refl M).trans E7
  obtain ⟨T1, h1, h2⟩ := Rd.told noNumP mixedP (fun B => specsB_ok (k := []) (hS19_32 B) (fun p hp => by cases hp)) (fun _ _ => rfl) (rd19_r0_raw b bw ow m cw i a n c a2 n2 c2 st z u M M3) (hk (bT cc0) (hk (q_inb (by omega) (by have := of_decide_eq_true cc0; omega)) (hk (q_ld (aload_ext (Ext.refl M) hldw)) (hk (q_call rfl p4 l5 e6) (hk (bT cc1) (hk (bT cc1) (hk (bT cc1) hn)))))))
  exact ⟨T1, M3, h1, h2, X12, hM8⟩
theorem rd19_r1_raw (b bw ow m cw i : Nat) (_ : Option Addr) (n _ : Nat) (_ : Option Addr) (_ _ : Nat) (st z _ : Int) (M : Mem) (M3 : Mem) (M15 : Mem) : oR Tryd.prog [] 40 Tryd.f19 (q19.loopAt 0) [(1, (i64 st)), (3, (pt b 0)), (7, (i64 (((n : Nat) : Int)))), (13, (sli bw ow m cw)), (14, (i64 (((m : Nat) : Int)))), (15, (i64 (((i : Nat) : Int))))] M [ttT 2, ttT 4, ttL 6 (i64 z), ttV 14 (.bool (noneB st (((n : Nat) : Int)))) M3, ttF 17, ttF 19, ttV 20 (.bool (noneB z 5)) M15, ttF 22, ttT 23] [6] = some (.ret, [some (i64 (-1))], M15, [qT (decide ((((i : Nat) : Int)) < (((m : Nat) : Int)))), .q (.inb (((i : Nat) : Int)) m) (ansB true), qL 3 bw (ow + (((i : Nat) : Int) : Int).toNat * 1) M (i64 z), qC 32 [(i64 st), (i64 (((n : Nat) : Int)))] M (.bool (noneB st (((n : Nat) : Int)))) M3, qF (noneB st (((n : Nat) : Int))), qF (noneB st (((n : Nat) : Int))), qC 32 [(i64 z), (i64 5)] M3 (.bool (noneB z 5)) M15, qF (noneB st (((n : Nat) : Int))), qT (noneB z 5)]) := by kernel_rfl
theorem rd19_r1 (b bw ow m cw i : Nat) (a : Option Addr) (n c : Nat) (a2 : Option Addr) (n2 c2 : Nat) (st z u : Int) {M : Mem} (hM : MemOk M) (hldw : aload Tryd.prog 3 ⟨bw, ow + i * 1, none⟩ M = some (i64 z)) (hb : M.get b = some ⟨[(.slice a n c), (.slice a2 n2 c2)], 25, 2, 0, true⟩) (cc0 : (decide ((((i : Nat) : Int)) < (((m : Nat) : Int)))) = true) (cc1 : (noneB st (((n : Nat) : Int))) = false) (cc2 : (noneB z 5) = true) : ∃ T1 M', Rd Tryd.prog [] (q19.loopAt 0) Tryd.f19.ntmps (fr [(1, (i64 st)), (3, (pt b 0)), (7, (i64 (((n : Nat) : Int)))), (13, (sli bw ow m cw)), (14, (i64 (((m : Nat) : Int)))), (15, (i64 (((i : Nat) : Int))))]) M .ret T1 M' ∧ [6].map T1.get = [some (i64 (-1))] ∧ Ext M M' ∧ MemOk M' := by
  obtain ⟨w1, N2, M3, p4, l5, e6, E7, hM8, Q9, G10⟩ := call_t (P := Tryd.prog) (GL := []) (f := 32) hM (con32 st (((n : Nat) : Int)) (MemOk.log hM))
  have g11 := E7.old hb
  have ew1 : w1 = (.bool (noneB st (((n : Nat) : Int)))) := (Option.some.inj Q9).symm
  subst ew1
  have X12 := (Ext.refl M).trans E7
  obtain ⟨w13, N14, M15, p16, l17, e18, E19, hM20, Q21, G22⟩ := call_t (P := Tryd.prog) (GL := []) (f := 32) hM8 (con32 z 5 (MemOk.log hM8))
  have g23 := E19.old g11
  have ew13 : w13 = (.bool (noneB z 5)) := (Option.some.inj Q21).symm
  subst ew13
  have X24 := X12.trans E19
  obtain ⟨T1, h1, h2⟩ := Rd.told noNumP mixedP (fun B => specsB_ok (k := []) (hS19_32 B) (fun p hp => by cases hp)) (fun _ _ => rfl) (rd19_r1_raw b bw ow m cw i a n c a2 n2 c2 st z u M M3 M15) (hk (bT cc0) (hk (q_inb (by omega) (by have := of_decide_eq_true cc0; omega)) (hk (q_ld (aload_ext (Ext.refl M) hldw)) (hk (q_call rfl p4 l5 e6) (hk (bF cc1) (hk (bF cc1) (hk (q_call rfl p16 l17 e18) (hk (bF cc1) (hk (bT cc2) hn)))))))))
  exact ⟨T1, M15, h1, h2, X24, hM20⟩
theorem rd19_n_raw (b bw ow m cw i bb o n c : Nat) (_ : Option Addr) (_ _ : Nat) (st z u : Int) (M : Mem) (M3 : Mem) (M15 : Mem) : oR Tryd.prog [] 40 Tryd.f19 (q19.loopAt 0) [(1, (i64 st)), (3, (pt b 0)), (7, (i64 (((n : Nat) : Int)))), (13, (sli bw ow m cw)), (14, (i64 (((m : Nat) : Int)))), (15, (i64 (((i : Nat) : Int))))] M [ttT 2, ttT 4, ttL 6 (i64 z), ttV 14 (.bool (noneB st (((n : Nat) : Int)))) M3, ttF 17, ttF 19, ttV 20 (.bool (noneB z 5)) M15, ttF 22, ttF 23, ttL 27 (sli bb o n c), ttT 33, ttT 35, ttL 37 (i64 u)] [1, 3, 7, 13, 14, 15] = some (.normal, [some (i64 u), some (pt b 0), some (i64 (((n : Nat) : Int))), some (sli bw ow m cw), some (i64 (((m : Nat) : Int))), some (i64 (IntKind.wrap .i64 ((((i : Nat) : Int)) + (1 : Int))))], M15, [qT (decide ((((i : Nat) : Int)) < (((m : Nat) : Int)))), .q (.inb (((i : Nat) : Int)) m) (ansB true), qL 3 bw (ow + (((i : Nat) : Int) : Int).toNat * 1) M (i64 z), qC 32 [(i64 st), (i64 (((n : Nat) : Int)))] M (.bool (noneB st (((n : Nat) : Int)))) M3, qF (noneB st (((n : Nat) : Int))), qF (noneB st (((n : Nat) : Int))), qC 32 [(i64 z), (i64 5)] M3 (.bool (noneB z 5)) M15, qF (noneB st (((n : Nat) : Int))), qF (noneB z 5), qL 22 b 0 M15 (sli bb o n c), .q (.inb st n) (ansB true), .q (.inb z 5) (ansB true), qL 3 bb (o + (st : Int).toNat * 5 + (z : Int).toNat * 1) M15 (i64 u)]) := by kernel_rfl
theorem rd19_n (b bw ow m cw i bb o n c : Nat) (a2 : Option Addr) (n2 c2 : Nat) (st z u : Int) {M : Mem} (hM : MemOk M) (hldw : aload Tryd.prog 3 ⟨bw, ow + i * 1, none⟩ M = some (i64 z)) (ib1 : 0 ≤ st) (ib2 : st < ((n : Nat) : Int)) (ib3 : 0 ≤ z) (ib4 : z < 5) (hldu : aload Tryd.prog 3 ⟨bb, o + st.toNat * 5 + z.toNat * 1, none⟩ M = some (i64 u)) (hb : M.get b = some ⟨[(sli bb o n c), (.slice a2 n2 c2)], 25, 2, 0, true⟩) (cc0 : (decide ((((i : Nat) : Int)) < (((m : Nat) : Int)))) = true) (cc1 : (noneB st (((n : Nat) : Int))) = false) (cc2 : (noneB z 5) = false) : ∃ T1 M', Rd Tryd.prog [] (q19.loopAt 0) Tryd.f19.ntmps (fr [(1, (i64 st)), (3, (pt b 0)), (7, (i64 (((n : Nat) : Int)))), (13, (sli bw ow m cw)), (14, (i64 (((m : Nat) : Int)))), (15, (i64 (((i : Nat) : Int))))]) M .normal T1 M' ∧ [1, 3, 7, 13, 14, 15].map T1.get = [some (i64 u), some (pt b 0), some (i64 (((n : Nat) : Int))), some (sli bw ow m cw), some (i64 (((m : Nat) : Int))), some (i64 (IntKind.wrap .i64 ((((i : Nat) : Int)) + (1 : Int))))] ∧ Ext M M' ∧ MemOk M' := by
  obtain ⟨w1, N2, M3, p4, l5, e6, E7, hM8, Q9, G10⟩ := call_t (P := Tryd.prog) (GL := []) (f := 32) hM (con32 st (((n : Nat) : Int)) (MemOk.log hM))
  have g11 := E7.old hb
  have ew1 : w1 = (.bool (noneB st (((n : Nat) : Int)))) := (Option.some.inj Q9).symm
  subst ew1
  have X12 := (Ext.refl M).trans E7
  obtain ⟨w13, N14, M15, p16, l17, e18, E19, hM20, Q21, G22⟩ := call_t (P := Tryd.prog) (GL := []) (f := 32) hM8 (con32 z 5 (MemOk.log hM8))
  have g23 := E19.old g11
  have ew13 : w13 = (.bool (noneB z 5)) := (Option.some.inj Q21).symm
  subst ew13
  have X24 := X12.trans E19
  obtain ⟨T1, h1, h2⟩ := Rd.told noNumP mixedP (fun B => specsB_ok (k := []) (hS19_32 B) (fun p hp => by cases hp)) (fun _ _ => rfl) (rd19_n_raw b bw ow m cw i bb o n c a2 n2 c2 st z u M M3 M15) (hk (bT cc0) (hk (q_inb (by omega) (by have := of_decide_eq_true cc0; omega)) (hk (q_ld (aload_ext (Ext.refl M) hldw)) (hk (q_call rfl p4 l5 e6) (hk (bF cc1) (hk (bF cc1) (hk (q_call rfl p16 l17 e18) (hk (bF cc1) (hk (bF cc2) (hk (lC dC22 g23 rfl) (hk (q_inb ib1 ib2) (hk (q_inb ib3 ib4) (hk (q_ld (aload_ext X24 hldu)) hn)))))))))))))
  exact ⟨T1, M15, h1, h2, X24, hM20⟩
theorem rd19_x_raw (b : Nat) (aw : Option Addr) (m cw i : Nat) (_ : Option Addr) (n _ : Nat) (_ : Option Addr) (_ _ : Nat) (st _ _ : Int) (M : Mem)  : oR Tryd.prog [] 40 Tryd.f19 (q19.loopAt 0) [(1, (i64 st)), (3, (pt b 0)), (7, (i64 (((n : Nat) : Int)))), (13, (.slice aw m cw)), (14, (i64 (((m : Nat) : Int)))), (15, (i64 (((i : Nat) : Int))))] M [ttF 2] [1, 3, 7] = some ((.exit 0), [some (i64 st), some (pt b 0), some (i64 (((n : Nat) : Int)))], M, [qF (decide ((((i : Nat) : Int)) < (((m : Nat) : Int))))]) := by kernel_rfl
theorem rd19_x (b : Nat) (aw : Option Addr) (m cw i : Nat) (a : Option Addr) (n c : Nat) (a2 : Option Addr) (n2 c2 : Nat) (st z u : Int) {M : Mem} (hM : MemOk M) (_ : aw.isNone = true → m = 0 ∧ cw = 0) (_ : M.get b = some ⟨[(.slice a n c), (.slice a2 n2 c2)], 25, 2, 0, true⟩) (cc0 : (decide ((((i : Nat) : Int)) < (((m : Nat) : Int)))) = false) : ∃ T1 M', Rd Tryd.prog [] (q19.loopAt 0) Tryd.f19.ntmps (fr [(1, (i64 st)), (3, (pt b 0)), (7, (i64 (((n : Nat) : Int)))), (13, (.slice aw m cw)), (14, (i64 (((m : Nat) : Int)))), (15, (i64 (((i : Nat) : Int))))]) M (.exit 0) T1 M' ∧ [1, 3, 7].map T1.get = [some (i64 st), some (pt b 0), some (i64 (((n : Nat) : Int)))] ∧ Ext M M' ∧ MemOk M' := by
  obtain ⟨T1, h1, h2⟩ := Rd.told noNumP mixedP (specs_none Tryd.prog) (fun _ _ => rfl) (rd19_x_raw b aw m cw i a n c a2 n2 c2 st z u M ) (hk (bF cc0) hn)
  exact ⟨T1, M, h1, h2, (Ext.refl M), hM⟩
end Go.Proofs.YtepgijgmnijdpaaDoor

open Go Go.Am Go.Proofs
namespace Go.Proofs.YtepgijgmnijdpaaDoor
set_option maxRecDepth 100000
theorem some_of {w : Nat} {M : Mem} {a : Option Addr} {n c : Nat} {l : List (List Int)} (hs : FlatAt w M (.slice a n c) l) (hl : 0 < l.length) : ∃ bb o, a = some ⟨bb, o, none⟩ := by
  rcases id hs.at_ with ⟨_, _, h0⟩ | ⟨bb, o, c', blk, pre, post, e1, _⟩
  · omega
  · exact ⟨bb, o, by simp only [Value.slice.injEq] at e1; exact e1.1⟩
theorem loop19 {l1 : List (List Int)} {a : Option Addr} {c : Nat} {ws : List Int} {aw : Option Addr} {cw : Nat} (b : Nat) (a2 : Option Addr) (n2 c2 : Nat) : ∀ (k i : Nat), i + k = ws.length → ∀ (st : Int) {M : Mem}, MemOk M → FlatAt 5 M (.slice a l1.length c) l1 → FlatAt 1 M (.slice aw ws.length cw) (ws.map ([·])) → M.get b = some ⟨[.slice a l1.length c, .slice a2 n2 c2], 25, 2, 0, true⟩ →
    ∃ M' e T', Go.Am.Ext M M' ∧ LoopR Tryd.prog [] (q19.loopAt 0) Tryd.f19.ntmps (fr [(1, i64 st), (3, pt b 0), (7, i64 ((l1.length : Nat) : Int)), (13, .slice aw ws.length cw), (14, i64 ((ws.length : Nat) : Int)), (15, i64 ((i : Nat) : Int))]) M e T' M' ∧
      ((goL l1 st (ws.drop i) = none ∧ e = .ret ∧ T' = fr [(6, i64 (-1))]) ∨ (∃ s, goL l1 st (ws.drop i) = some s ∧ e = .exit 0 ∧ T' = fr [(1, i64 s), (3, pt b 0), (7, i64 ((l1.length : Nat) : Int))])) := by
  intro k
  induction k with
  | zero =>
    intro i hi st M hM hs hw hb
    obtain ⟨T1, M1, h1, h2, h3, h4⟩ := rd19_x b aw ws.length cw i a l1.length c a2 n2 c2 st 0 0 hM hw.ln hb (decide_eq_false (by omega))
    refine ⟨M1, _, _, h3, LoopR.stop h1 (by simp) (TSub.fr (l := [(1, i64 st), (3, pt b 0), (7, i64 ((l1.length : Nat) : Int))]) h2), .inr ⟨st, ?_, rfl, rfl⟩⟩
    rw [List.drop_eq_nil_of_le (by omega)]; rfl
  | succ k ih =>
    intro i hi st M hM hs hw hb
    have hlt : i < ws.length := by omega
    have hlen : ws.length ≤ 9223372036854775807 := by have := hw.len; rw [List.length_map] at this; exact this
    obtain ⟨bw, ow, rfl, hld⟩ := one_at hw (by omega)
    have hc : decide ((((i : Nat) : Int)) < (((ws.length : Nat) : Int))) = true := decide_eq_true (by omega)
    have hdrop : ws.drop i = ws[i] :: ws.drop (i + 1) := List.drop_eq_getElem_cons hlt
    rw [hdrop]
    cases c1 : noneB st ((l1.length : Nat) : Int) with
    | true =>
      obtain ⟨T1, M1, h1, h2, h3, h4⟩ := rd19_r0 b bw ow ws.length cw i a l1.length c a2 n2 c2 st ws[i] 0 hM (hld i hlt) hb hc c1
      refine ⟨M1, _, _, h3, LoopR.stop h1 (by simp) (TSub.fr (l := [(6, i64 (-1))]) h2), .inl ⟨?_, rfl, rfl⟩⟩
      simp only [goL, c1, Bool.true_or, cond_true]
    | false =>
      cases c2' : noneB ws[i] (5 : Int) with
      | true =>
        obtain ⟨T1, M1, h1, h2, h3, h4⟩ := rd19_r1 b bw ow ws.length cw i a l1.length c a2 n2 c2 st ws[i] 0 hM (hld i hlt) hb hc c1 c2'
        refine ⟨M1, _, _, h3, LoopR.stop h1 (by simp) (TSub.fr (l := [(6, i64 (-1))]) h2), .inl ⟨?_, rfl, rfl⟩⟩
        simp only [goL, c1, c2', Bool.or_true, cond_true]
      | false =>
        obtain ⟨a1, a2'⟩ := noneB_false c1
        obtain ⟨z1, z2⟩ := noneB_false c2'
        obtain ⟨bb, o, rfl⟩ := some_of hs (by omega)
        obtain ⟨T1, M1, h1, h2, h3, h4⟩ := rd19_n b bw ow ws.length cw i bb o l1.length c a2 n2 c2 st ws[i] (cellAt l1 st ws[i]) hM (hld i hlt) a1 a2' z1 z2 (load_dfa hs c1 c2') hb hc c1 c2'
        rw [wrap_succ (by omega)] at h2
        obtain ⟨M2, e, T', q1, q2, q3⟩ := ih (i + 1) (by omega) (cellAt l1 st ws[i]) h4 (hs.Ext h3) (hw.Ext h3) (h3.old hb)
        refine ⟨M2, e, T', h3.trans q1, LoopR.step h1 (TSub.fr (l := [(1, i64 (cellAt l1 st ws[i])), (3, pt b 0), (7, i64 ((l1.length : Nat) : Int)), (13, .slice (some ⟨bw, ow, none⟩) ws.length cw), (14, i64 ((ws.length : Nat) : Int)), (15, i64 (((i + 1) : Nat) : Int))]) h2) q2, ?_⟩
        simp only [goL, c1, c2', Bool.or_false, cond_false]
        exact q3
theorem loop19_0 {l1 : List (List Int)} {a : Option Addr} {c : Nat} {ws : List Int} {aw : Option Addr} {cw : Nat} (b : Nat) (a2 : Option Addr) (n2 c2 : Nat) (st : Int) {M : Mem} (hM : MemOk M) (hs : FlatAt 5 M (.slice a l1.length c) l1) (hw : FlatAt 1 M (.slice aw ws.length cw) (ws.map ([·]))) (hb : M.get b = some ⟨[.slice a l1.length c, .slice a2 n2 c2], 25, 2, 0, true⟩) :
    ((goL l1 st ws).isNone = true → ∃ M', LoopR Tryd.prog [] (q19.loopAt 0) Tryd.f19.ntmps (fr [(1, i64 st), (3, pt b 0), (7, i64 ((l1.length : Nat) : Int)), (13, .slice aw ws.length cw), (14, i64 ((ws.length : Nat) : Int)), (15, i64 0)]) M .ret (fr [(6, i64 (-1))]) M' ∧ Go.Am.Ext M M' ∧ MemOk M') ∧
    ((goL l1 st ws).isNone = false → ∃ M', LoopR Tryd.prog [] (q19.loopAt 0) Tryd.f19.ntmps (fr [(1, i64 st), (3, pt b 0), (7, i64 ((l1.length : Nat) : Int)), (13, .slice aw ws.length cw), (14, i64 ((ws.length : Nat) : Int)), (15, i64 0)]) M (.exit 0) (fr [(1, i64 ((goL l1 st ws).getD 0)), (3, pt b 0), (7, i64 ((l1.length : Nat) : Int))]) M' ∧ Go.Am.Ext M M' ∧ MemOk M') := by
  obtain ⟨M', e, T', h1, h2, h3⟩ := loop19 b a2 n2 c2 ws.length 0 (by omega) st hM hs hw hb
  rw [List.drop_zero] at h3
  rcases h3 with ⟨h3, rfl, rfl⟩ | ⟨s, h3, rfl, rfl⟩ <;> rw [h3]
  · exact ⟨fun _ => ⟨M', h2, h1, hM.ext h1⟩, fun h => by simp at h⟩
  · exact ⟨fun h => by simp at h, fun _ => ⟨M', h2, h1, hM.ext h1⟩⟩
theorem rK19 : Tryd.f19.results = #[.tmp 6] := by kernel_rfl
theorem w19_0_raw (a1 : Option Addr) (c1 : Nat) (a2 : Option Addr) (c2 : Nat) (l1 : List (List Int)) (l2 : List Bool) (st : Int) (aw : Option Addr) (cw : Nat) (ws : List Int)  (M : Mem) (b1 : Nat) (M2 : Mem) (M9 : Mem) : oT Tryd.prog [0] 40 Tryd.f19 q19 [(.agg ⟨[(.slice a1 l1.length c1), (.slice a2 l2.length c2)]⟩), i64 st, (.slice aw ws.length cw)] M [ttV 1 (pt b1 0) M2, ttL 7 (.slice a1 l1.length c1), ttT 9, ttT 15, .blk 18 [1, 3, 7, 13, 14, 15] .ret (fr [(6, (i64 (-1)))]) M9] 6 = some (.ret, some (i64 (-1)), M9, [.eq (abox Tryd.prog 25 (.agg ⟨[(.slice a1 l1.length c1), (.slice a2 l2.length c2)]⟩) M) (1, .val (pt b1 0), M2), qL 22 b1 0 M2 (.slice a1 l1.length c1), .ln a1 l1.length c1, .ln aw ws.length cw, .blk 0 (.loop (q19.loopAt 0)) Tryd.f19.ntmps [1, 3, 7, 13, 14, 15] [some (i64 st), some (pt b1 0), some (i64 (((l1.length : Nat) : Int))), some (.slice aw ws.length cw), some (i64 (((ws.length : Nat) : Int))), some (i64 0)] M2 .ret (fr [(6, (i64 (-1)))]) M9]) := by kernel_rfl
theorem w19_0 (a1 : Option Addr) (c1 : Nat) (a2 : Option Addr) (c2 : Nat) (l1 : List (List Int)) (l2 : List Bool) (st : Int) (aw : Option Addr) (cw : Nat) (ws : List Int)  {M : Mem} (hM : MemOk M) (hs1 : FlatAt 5 M (.slice a1 l1.length c1) l1) (_ : BoolsAt M (.slice a2 l2.length c2) l2) (hw : FlatAt 1 M (.slice aw ws.length cw) (ws.map ([·]))) (cc0 : ((goL l1 st ws).isNone) = true) : ∃ M', Ev Tryd.prog [] 19 [(.agg ⟨[(.slice a1 l1.length c1), (.slice a2 l2.length c2)]⟩), i64 st, (.slice aw ws.length cw)] M (i64 (-1)) M' ∧ Ext M M' := by
  obtain ⟨b1, M2, eb3, em4, g5, E6, hM7⟩ := new_t hM ⟨[(.slice a1 l1.length c1), (.slice a2 l2.length c2)], 25, 2, 0, true⟩
  have nb1 : M.next ≤ b1 := by rw [← eb3]; exact (Ext.refl M).next
  have X8 := (Ext.refl M).trans E6
  obtain ⟨M9, hL10, E11, hM12⟩ := (loop19_0 b1 a2 l2.length c2 st hM7 (hs1.Ext X8) (hw.Ext X8) g5).1 cc0
  have g13 := E11.old g5
  have X14 := X8.trans E11
  exact ⟨M9, Ev.told_tmp noNumP mixedP Tryd.func19 q19_ok (by kernel_rfl) rK19 (fun B => specsB_ok (l := []) (fun p hp => by cases hp) (k := [(0, bone (.loop (q19.loopAt 0)) Tryd.f19.ntmps [1, 3, 7, 13, 14, 15] [some (i64 st), some (pt b1 0), some (i64 (((l1.length : Nat) : Int))), some (.slice aw ws.length cw), some (i64 (((ws.length : Nat) : Int))), some (i64 0)] M2 .ret (fr [(6, (i64 (-1)))]) M9)]) (fun p hp => by simp only [List.mem_cons, List.not_mem_nil, or_false] at hp; rcases hp with rfl <;> first | exact BlkOk.loop noNumP mixedP hL10)) (fun _ h => blksF_one h) (w19_0_raw a1 c1 a2 c2 l1 l2 st aw cw ws M b1 M2 M9) (hk (q_eq (by rw [← eb3, ← em4]; kernel_rfl) Nat.one_ne_zero) (hk (lC dC22 g5 rfl) (hk (lN hs1.ln) (hk (lN hw.ln) (hk (q_blk rfl) hn))))), X14⟩
theorem w19_1_raw (a1 : Option Addr) (c1 : Nat) (a2 : Option Addr) (c2 : Nat) (l1 : List (List Int)) (l2 : List Bool) (st : Int) (aw : Option Addr) (cw : Nat) (ws : List Int)  (M : Mem) (b1 : Nat) (M2 : Mem) (M9 : Mem) (M17 : Mem) : oT Tryd.prog [0] 40 Tryd.f19 q19 [(.agg ⟨[(.slice a1 l1.length c1), (.slice a2 l2.length c2)]⟩), i64 st, (.slice aw ws.length cw)] M [ttV 1 (pt b1 0) M2, ttL 7 (.slice a1 l1.length c1), ttT 9, ttT 15, .blk 18 [1, 3, 7, 13, 14, 15] .normal (fr [(1, (i64 ((goL l1 st ws).getD 0))), (3, (pt b1 0)), (7, (i64 (((l1.length : Nat) : Int))))]) M9, ttV 24 (.bool (noneB ((goL l1 st ws).getD 0) (((l1.length : Nat) : Int)))) M17, ttT 25] 6 = some (.ret, some (i64 (-1)), M17, [.eq (abox Tryd.prog 25 (.agg ⟨[(.slice a1 l1.length c1), (.slice a2 l2.length c2)]⟩) M) (1, .val (pt b1 0), M2), qL 22 b1 0 M2 (.slice a1 l1.length c1), .ln a1 l1.length c1, .ln aw ws.length cw, .blk 0 (.loop (q19.loopAt 0)) Tryd.f19.ntmps [1, 3, 7, 13, 14, 15] [some (i64 st), some (pt b1 0), some (i64 (((l1.length : Nat) : Int))), some (.slice aw ws.length cw), some (i64 (((ws.length : Nat) : Int))), some (i64 0)] M2 .normal (fr [(1, (i64 ((goL l1 st ws).getD 0))), (3, (pt b1 0)), (7, (i64 (((l1.length : Nat) : Int))))]) M9, qC 32 [(i64 ((goL l1 st ws).getD 0)), (i64 (((l1.length : Nat) : Int)))] M9 (.bool (noneB ((goL l1 st ws).getD 0) (((l1.length : Nat) : Int)))) M17, qT (noneB ((goL l1 st ws).getD 0) (((l1.length : Nat) : Int)))]) := by kernel_rfl
theorem w19_1 (a1 : Option Addr) (c1 : Nat) (a2 : Option Addr) (c2 : Nat) (l1 : List (List Int)) (l2 : List Bool) (st : Int) (aw : Option Addr) (cw : Nat) (ws : List Int)  {M : Mem} (hM : MemOk M) (hs1 : FlatAt 5 M (.slice a1 l1.length c1) l1) (_ : BoolsAt M (.slice a2 l2.length c2) l2) (hw : FlatAt 1 M (.slice aw ws.length cw) (ws.map ([·]))) (cc0 : ((goL l1 st ws).isNone) = false) (cc1 : (noneB ((goL l1 st ws).getD 0) (((l1.length : Nat) : Int))) = true) : ∃ M', Ev Tryd.prog [] 19 [(.agg ⟨[(.slice a1 l1.length c1), (.slice a2 l2.length c2)]⟩), i64 st, (.slice aw ws.length cw)] M (i64 (-1)) M' ∧ Ext M M' := by
  obtain ⟨b1, M2, eb3, em4, g5, E6, hM7⟩ := new_t hM ⟨[(.slice a1 l1.length c1), (.slice a2 l2.length c2)], 25, 2, 0, true⟩
  have nb1 : M.next ≤ b1 := by rw [← eb3]; exact (Ext.refl M).next
  have X8 := (Ext.refl M).trans E6
  obtain ⟨M9, hL10, E11, hM12⟩ := (loop19_0 b1 a2 l2.length c2 st hM7 (hs1.Ext X8) (hw.Ext X8) g5).2 cc0
  have g13 := E11.old g5
  have X14 := X8.trans E11
  obtain ⟨w15, N16, M17, p18, l19, e20, E21, hM22, Q23, G24⟩ := call_t (P := Tryd.prog) (GL := []) (f := 32) hM12 (con32 ((goL l1 st ws).getD 0) (((l1.length : Nat) : Int)) (MemOk.log hM12))
  have g25 := E21.old g13
  have ew15 : w15 = (.bool (noneB ((goL l1 st ws).getD 0) (((l1.length : Nat) : Int)))) := (Option.some.inj Q23).symm
  subst ew15
  have X26 := X14.trans E21
  exact ⟨M17, Ev.told_tmp noNumP mixedP Tryd.func19 q19_ok (by kernel_rfl) rK19 (fun B => specsB_ok (hS19_32 B) (k := [(0, bone (.loop (q19.loopAt 0)) Tryd.f19.ntmps [1, 3, 7, 13, 14, 15] [some (i64 st), some (pt b1 0), some (i64 (((l1.length : Nat) : Int))), some (.slice aw ws.length cw), some (i64 (((ws.length : Nat) : Int))), some (i64 0)] M2 .normal (fr [(1, (i64 ((goL l1 st ws).getD 0))), (3, (pt b1 0)), (7, (i64 (((l1.length : Nat) : Int))))]) M9)]) (fun p hp => by simp only [List.mem_cons, List.not_mem_nil, or_false] at hp; rcases hp with rfl <;> first | exact BlkOk.loop noNumP mixedP hL10)) (fun _ h => blksF_one h) (w19_1_raw a1 c1 a2 c2 l1 l2 st aw cw ws M b1 M2 M9 M17) (hk (q_eq (by rw [← eb3, ← em4]; kernel_rfl) Nat.one_ne_zero) (hk (lC dC22 g5 rfl) (hk (lN hs1.ln) (hk (lN hw.ln) (hk (q_blk rfl) (hk (q_call rfl p18 l19 e20) (hk (bT cc1) hn))))))), X26⟩
theorem w19_2_raw (a1 : Option Addr) (c1 : Nat) (a2 : Option Addr) (c2 : Nat) (l1 : List (List Int)) (l2 : List Bool) (st : Int) (aw : Option Addr) (cw : Nat) (ws : List Int)  (M : Mem) (b1 : Nat) (M2 : Mem) (M9 : Mem) (M17 : Mem) : oT Tryd.prog [0] 40 Tryd.f19 q19 [(.agg ⟨[(.slice a1 l1.length c1), (.slice a2 l2.length c2)]⟩), i64 st, (.slice aw ws.length cw)] M [ttV 1 (pt b1 0) M2, ttL 7 (.slice a1 l1.length c1), ttT 9, ttT 15, .blk 18 [1, 3, 7, 13, 14, 15] .normal (fr [(1, (i64 ((goL l1 st ws).getD 0))), (3, (pt b1 0)), (7, (i64 (((l1.length : Nat) : Int))))]) M9, ttV 24 (.bool (noneB ((goL l1 st ws).getD 0) (((l1.length : Nat) : Int)))) M17, ttF 25] 6 = some (.ret, some (i64 ((goL l1 st ws).getD 0)), M17, [.eq (abox Tryd.prog 25 (.agg ⟨[(.slice a1 l1.length c1), (.slice a2 l2.length c2)]⟩) M) (1, .val (pt b1 0), M2), qL 22 b1 0 M2 (.slice a1 l1.length c1), .ln a1 l1.length c1, .ln aw ws.length cw, .blk 0 (.loop (q19.loopAt 0)) Tryd.f19.ntmps [1, 3, 7, 13, 14, 15] [some (i64 st), some (pt b1 0), some (i64 (((l1.length : Nat) : Int))), some (.slice aw ws.length cw), some (i64 (((ws.length : Nat) : Int))), some (i64 0)] M2 .normal (fr [(1, (i64 ((goL l1 st ws).getD 0))), (3, (pt b1 0)), (7, (i64 (((l1.length : Nat) : Int))))]) M9, qC 32 [(i64 ((goL l1 st ws).getD 0)), (i64 (((l1.length : Nat) : Int)))] M9 (.bool (noneB ((goL l1 st ws).getD 0) (((l1.length : Nat) : Int)))) M17, qF (noneB ((goL l1 st ws).getD 0) (((l1.length : Nat) : Int)))]) := by kernel_rfl
theorem w19_2 (a1 : Option Addr) (c1 : Nat) (a2 : Option Addr) (c2 : Nat) (l1 : List (List Int)) (l2 : List Bool) (st : Int) (aw : Option Addr) (cw : Nat) (ws : List Int)  {M : Mem} (hM : MemOk M) (hs1 : FlatAt 5 M (.slice a1 l1.length c1) l1) (_ : BoolsAt M (.slice a2 l2.length c2) l2) (hw : FlatAt 1 M (.slice aw ws.length cw) (ws.map ([·]))) (cc0 : ((goL l1 st ws).isNone) = false) (cc1 : (noneB ((goL l1 st ws).getD 0) (((l1.length : Nat) : Int))) = false) : ∃ M', Ev Tryd.prog [] 19 [(.agg ⟨[(.slice a1 l1.length c1), (.slice a2 l2.length c2)]⟩), i64 st, (.slice aw ws.length cw)] M (i64 ((goL l1 st ws).getD 0)) M' ∧ Ext M M' := by
  obtain ⟨b1, M2, eb3, em4, g5, E6, hM7⟩ := new_t hM ⟨[(.slice a1 l1.length c1), (.slice a2 l2.length c2)], 25, 2, 0, true⟩
  have nb1 : M.next ≤ b1 := by rw [← eb3]; exact (Ext.refl M).next
  have X8 := (Ext.refl M).trans E6
  obtain ⟨M9, hL10, E11, hM12⟩ := (loop19_0 b1 a2 l2.length c2 st hM7 (hs1.Ext X8) (hw.Ext X8) g5).2 cc0
  have g13 := E11.old g5
  have X14 := X8.trans E11
  obtain ⟨w15, N16, M17, p18, l19, e20, E21, hM22, Q23, G24⟩ := call_t (P := Tryd.prog) (GL := []) (f := 32) hM12 (con32 ((goL l1 st ws).getD 0) (((l1.length : Nat) : Int)) (MemOk.log hM12))
  have g25 := E21.old g13
  have ew15 : w15 = (.bool (noneB ((goL l1 st ws).getD 0) (((l1.length : Nat) : Int)))) := (Option.some.inj Q23).symm
  subst ew15
  have X26 := X14.trans E21
  exact ⟨M17, Ev.told_tmp noNumP mixedP Tryd.func19 q19_ok (by kernel_rfl) rK19 (fun B => specsB_ok (hS19_32 B) (k := [(0, bone (.loop (q19.loopAt 0)) Tryd.f19.ntmps [1, 3, 7, 13, 14, 15] [some (i64 st), some (pt b1 0), some (i64 (((l1.length : Nat) : Int))), some (.slice aw ws.length cw), some (i64 (((ws.length : Nat) : Int))), some (i64 0)] M2 .normal (fr [(1, (i64 ((goL l1 st ws).getD 0))), (3, (pt b1 0)), (7, (i64 (((l1.length : Nat) : Int))))]) M9)]) (fun p hp => by simp only [List.mem_cons, List.not_mem_nil, or_false] at hp; rcases hp with rfl <;> first | exact BlkOk.loop noNumP mixedP hL10)) (fun _ h => blksF_one h) (w19_2_raw a1 c1 a2 c2 l1 l2 st aw cw ws M b1 M2 M9 M17) (hk (q_eq (by rw [← eb3, ← em4]; kernel_rfl) Nat.one_ne_zero) (hk (lC dC22 g5 rfl) (hk (lN hs1.ln) (hk (lN hw.ln) (hk (q_blk rfl) (hk (q_call rfl p18 l19 e20) (hk (bF cc1) hn))))))), X26⟩
theorem w19_all (a1 : Option Addr) (c1 : Nat) (a2 : Option Addr) (c2 : Nat) (l1 : List (List Int)) (l2 : List Bool) (st : Int) (aw : Option Addr) (cw : Nat) (ws : List Int) {M : Mem} (hM : MemOk M) (hs1 : FlatAt 5 M (.slice a1 l1.length c1) l1) (hs2 : BoolsAt M (.slice a2 l2.length c2) l2) (hw : FlatAt 1 M (.slice aw ws.length cw) (ws.map ([·]))) : ∃ M', Ev Tryd.prog [] 19 [(.agg ⟨[(.slice a1 l1.length c1), (.slice a2 l2.length c2)]⟩), i64 st, (.slice aw ws.length cw)] M (i64 (goF l1 st ws)) M' ∧ Ext M M' := by
  cases cc0 : ((goL l1 st ws).isNone) with
  | true =>
    have h := w19_0 a1 c1 a2 c2 l1 l2 st aw cw ws hM hs1 hs2 hw cc0
    first | exact h | (have e : ((i64 (goF l1 st ws)) : Value) = (i64 (-1)) := (by simp only [goF, cc0, cond_true] <;> rfl); rw [e]; exact h)
  | false =>
    cases cc1 : (noneB ((goL l1 st ws).getD 0) (((l1.length : Nat) : Int))) with
    | true =>
      have h := w19_1 a1 c1 a2 c2 l1 l2 st aw cw ws hM hs1 hs2 hw cc0 cc1
      first | exact h | (have e : ((i64 (goF l1 st ws)) : Value) = (i64 (-1)) := (by simp only [goF, cc0, cc1, cond_true, cond_false] <;> rfl); rw [e]; exact h)
    | false =>
      have h := w19_2 a1 c1 a2 c2 l1 l2 st aw cw ws hM hs1 hs2 hw cc0 cc1
      first | exact h | (have e : ((i64 (goF l1 st ws)) : Value) = (i64 ((goL l1 st ws).getD 0)) := (by simp only [goF, cc0, cc1, cond_false] <;> rfl); rw [e]; exact h)
def Qgo : List Value → Mem → Value → Mem → Prop := fun args M v _ => ∃ x l1 l2 st L ws, args = [x, i64 st, L] ∧ DfaAt M x l1 l2 ∧ FlatAt 1 M L (ws.map ([·])) ∧ v = i64 (goF l1 st ws)
theorem Qgo.val {x L : Value} {l1 : List (List Int)} {l2 : List Bool} {st : Int} {ws : List Int} {M M' : Mem} {v : Value} (h : DfaAt M x l1 l2) (hw : FlatAt 1 M L (ws.map ([·]))) (hq : Qgo [x, i64 st, L] M v M') : v = i64 (goF l1 st ws) := by
  obtain ⟨x', l1', l2', st', L', ws', h1, h2, h3, rfl⟩ := hq
  simp only [List.cons.injEq, and_true] at h1
  obtain ⟨rfl, e1, rfl⟩ := h1
  have e1 : st = st' := by simpa [i64] using e1
  obtain ⟨rfl, rfl⟩ := h.unique h2
  have e2 := one_inj (hw.unique h3)
  rw [e1, e2]
theorem con19 {x : Value} {l1 : List (List Int)} {l2 : List Bool} (st : Int) {aw : Option Addr} {cw : Nat} {ws : List Int} {M : Mem} (hM : MemOk M) (h : DfaAt M x l1 l2) (hw : FlatAt 1 M (.slice aw ws.length cw) (ws.map ([·]))) : ∃ v M', Con Tryd.prog [] 19 Qgo [x, i64 st, .slice aw ws.length cw] M v M' := by
  have h0 := h
  obtain ⟨L1, L2, rfl, h2, h3⟩ := h.at_
  obtain ⟨a1, c1, rfl⟩ := h2.form
  obtain ⟨a2, c2, rfl⟩ := h3.form
  obtain ⟨M', k1, k2⟩ := w19_all a1 c1 a2 c2 l1 l2 st aw cw ws hM h2 h3 hw
  exact ⟨_, M', k1, k2, _, l1, l2, st, _, ws, rfl, h0, hw, rfl⟩
end Go.Proofs.YtepgijgmnijdpaaDoor

open Go Go.Am Go.Proofs
namespace Go.Proofs.YtepgijgmnijdpaaDoor
set_option maxRecDepth 100000
theorem dC4 : (Tryd.prog.underlying 4).map isAggD = some false := by kernel_rfl
theorem dS4 : (Tryd.prog.info? 4).map (·.size) = some 1 := by kernel_rfl
def accAt (l2 : List Bool) (s : Int) : Bool := (l2[s.toNat]?).getD false
def runF (l1 : List (List Int)) (l2 : List Bool) (ws : List Int) : Bool := !(noneB (goF l1 0 ws) ((l2.length : Nat) : Int)) && accAt l2 (goF l1 0 ws)
theorem load_acc {M : Mem} {b o c : Nat} {l2 : List Bool} {s : Int} (h : BoolsAt M (.slice (some ⟨b, o, none⟩) l2.length c) l2) (h1 : 0 ≤ s) (h2 : s < ((l2.length : Nat) : Int)) : aload Tryd.prog 4 ⟨b, o + s.toNat * 1, none⟩ M = some (.bool (accAt l2 s)) := by
  have hi : l2[s.toNat]? = some l2[s.toNat] := List.getElem?_eq_getElem (by omega)
  have hd : (Tryd.prog.underlying 4).map isAggD = some false := by kernel_rfl
  have := load_row1 (P := Tryd.prog) (ty := 4) h hi rfl hd
  rw [this]
  simp only [accAt, hi, Option.getD_some]
theorem someB_of {M : Mem} {a : Option Addr} {n c : Nat} {l : List Bool} (hs : BoolsAt M (.slice a n c) l) (hl : 0 < l.length) : ∃ bb o, a = some ⟨bb, o, none⟩ := by
  rcases id hs.at_ with ⟨_, _, h0⟩ | ⟨bb, o, c', blk, pre, post, e1, _⟩
  · omega
  · exact ⟨bb, o, by simp only [Value.slice.injEq] at e1; exact e1.1⟩
theorem rK21 : Tryd.f21.results = #[.tmp 4] := by kernel_rfl
theorem hS21_19_32 (B : Bd) : ∀ p ∈ ([(19, pick (Con Tryd.prog [] 19 Qgo)), (32, pick (Con Tryd.prog [] 32 (Fl g32)))] : List (FuncId × (List Value → Mem → Option (Value × Mem)))), SpecOk Tryd.prog [] B p.1 p.2 := (fun p hp => by simp only [List.mem_cons, List.not_mem_nil, or_false] at hp; rcases hp with rfl | rfl <;> first | exact Con.ok _)
theorem w21_o_raw (a1 : Option Addr) (c1 : Nat) (a2 : Option Addr) (c2 : Nat) (l1 : List (List Int)) (l2 : List Bool) (aw : Option Addr) (cw : Nat) (ws : List Int)  (M : Mem) (b1 : Nat) (M2 : Mem) (M11 : Mem) (M23 : Mem) : oT Tryd.prog [] 40 Tryd.f21 q21 [(.agg ⟨[(.slice a1 l1.length c1), (.slice a2 l2.length c2)]⟩), (.slice aw ws.length cw)] M [ttV 1 (pt b1 0) M2, ttL 5 (.agg ⟨[(.slice a1 l1.length c1), (.slice a2 l2.length c2)]⟩), ttV 9 (i64 (goF l1 0 ws)) M11, ttL 17 (.slice a2 l2.length c2), ttT 19, ttV 21 (.bool (noneB (goF l1 0 ws) (((l2.length : Nat) : Int)))) M23, ttF 26, ttF 28, ttF 30, ttF 32, ttF 34, ttF 37] 4 = some (.ret, some (.bool false), M23, [.eq (abox Tryd.prog 25 (.agg ⟨[(.slice a1 l1.length c1), (.slice a2 l2.length c2)]⟩) M) (1, .val (pt b1 0), M2), qL 25 b1 0 M2 (.agg ⟨[(.slice a1 l1.length c1), (.slice a2 l2.length c2)]⟩), qC 19 [(.agg ⟨[(.slice a1 l1.length c1), (.slice a2 l2.length c2)]⟩), (i64 0), (.slice aw ws.length cw)] M2 (i64 (goF l1 0 ws)) M11, qL 23 b1 1 M11 (.slice a2 l2.length c2), .ln a2 l2.length c2, qC 32 [(i64 (goF l1 0 ws)), (i64 (((l2.length : Nat) : Int)))] M11 (.bool (noneB (goF l1 0 ws) (((l2.length : Nat) : Int)))) M23, qF (!(noneB (goF l1 0 ws) (((l2.length : Nat) : Int)))), qF (!(noneB (goF l1 0 ws) (((l2.length : Nat) : Int)))), qF (!(noneB (goF l1 0 ws) (((l2.length : Nat) : Int)))), qF (!(noneB (goF l1 0 ws) (((l2.length : Nat) : Int)))), qF (!(noneB (goF l1 0 ws) (((l2.length : Nat) : Int)))), qF (!(noneB (goF l1 0 ws) (((l2.length : Nat) : Int))))]) := by kernel_rfl
theorem w21_o (a1 : Option Addr) (c1 : Nat) (a2 : Option Addr) (c2 : Nat) (l1 : List (List Int)) (l2 : List Bool) (aw : Option Addr) (cw : Nat) (ws : List Int)  {M : Mem} (hM : MemOk M) (hd : DfaAt M (.agg ⟨[.slice a1 l1.length c1, .slice a2 l2.length c2]⟩) l1 l2) (_ : FlatAt 5 M (.slice a1 l1.length c1) l1) (hs2 : BoolsAt M (.slice a2 l2.length c2) l2) (hw : FlatAt 1 M (.slice aw ws.length cw) (ws.map ([·]))) (cc0 : (noneB (goF l1 0 ws) (((l2.length : Nat) : Int))) = true) : ∃ M', Ev Tryd.prog [] 21 [(.agg ⟨[(.slice a1 l1.length c1), (.slice a2 l2.length c2)]⟩), (.slice aw ws.length cw)] M (.bool false) M' ∧ Ext M M' := by
  obtain ⟨b1, M2, eb3, em4, g5, E6, hM7⟩ := new_t hM ⟨[(.slice a1 l1.length c1), (.slice a2 l2.length c2)], 25, 2, 0, true⟩
  have nb1 : M.next ≤ b1 := by rw [← eb3]; exact (Ext.refl M).next
  have X8 := (Ext.refl M).trans E6
  obtain ⟨w9, N10, M11, p12, l13, e14, E15, hM16, Q17, G18⟩ := call_t (P := Tryd.prog) (GL := []) (f := 19) hM7 (con19 0 (MemOk.log hM7) (hd.Ext X8).log (hw.Ext X8).log)
  have g19 := E15.old g5
  have ew9 := Qgo.val (hd.Ext X8).log (hw.Ext X8).log Q17
  subst ew9
  have X20 := X8.trans E15
  obtain ⟨w21, N22, M23, p24, l25, e26, E27, hM28, Q29, G30⟩ := call_t (P := Tryd.prog) (GL := []) (f := 32) hM16 (con32 (goF l1 0 ws) (((l2.length : Nat) : Int)) (MemOk.log hM16))
  have g31 := E27.old g19
  have ew21 : w21 = (.bool (noneB (goF l1 0 ws) (((l2.length : Nat) : Int)))) := (Option.some.inj Q29).symm
  subst ew21
  have X32 := X20.trans E27
  exact ⟨M23, Ev.told_tmp noNumP mixedP Tryd.func21 q21_ok (by kernel_rfl) rK21 (fun B => specsB_ok (k := []) (hS21_19_32 B) (fun p hp => by cases hp)) (fun _ _ => rfl) (w21_o_raw a1 c1 a2 c2 l1 l2 aw cw ws M b1 M2 M11 M23) (hk (q_eq (by rw [← eb3, ← em4]; kernel_rfl) Nat.one_ne_zero) (hk (lA ⟨dA25, dS25⟩ g5 rfl) (hk (q_call rfl p12 l13 e14) (hk (lC dC23 g19 rfl) (hk (lN hs2.ln) (hk (q_call rfl p24 l25 e26) (hk (bF (by rw [cc0]; rfl)) (hk (bF (by rw [cc0]; rfl)) (hk (bF (by rw [cc0]; rfl)) (hk (bF (by rw [cc0]; rfl)) (hk (bF (by rw [cc0]; rfl)) (hk (bF (by rw [cc0]; rfl)) hn)))))))))))), X32⟩
theorem w21_s_raw (a1 : Option Addr) (c1 : Nat) (b2 o2 c2 : Nat) (l1 : List (List Int)) (l2 : List Bool) (aw : Option Addr) (cw : Nat) (ws : List Int)  (M : Mem) (b1 : Nat) (M2 : Mem) (M11 : Mem) (M23 : Mem) : oT Tryd.prog [] 40 Tryd.f21 q21 [(.agg ⟨[(.slice a1 l1.length c1), (sli b2 o2 l2.length c2)]⟩), (.slice aw ws.length cw)] M [ttV 1 (pt b1 0) M2, ttL 5 (.agg ⟨[(.slice a1 l1.length c1), (sli b2 o2 l2.length c2)]⟩), ttV 9 (i64 (goF l1 0 ws)) M11, ttL 17 (sli b2 o2 l2.length c2), ttV 21 (.bool (noneB (goF l1 0 ws) (((l2.length : Nat) : Int)))) M23, ttT 26, ttT 28, ttL 29 (sli b2 o2 l2.length c2), ttT 30, ttT 32, ttT 33, ttT 34, ttL 35 (.bool (accAt l2 (goF l1 0 ws))), ttT 37] 4 = some (.ret, some (.bool (accAt l2 (goF l1 0 ws))), M23, [.eq (abox Tryd.prog 25 (.agg ⟨[(.slice a1 l1.length c1), (sli b2 o2 l2.length c2)]⟩) M) (1, .val (pt b1 0), M2), qL 25 b1 0 M2 (.agg ⟨[(.slice a1 l1.length c1), (sli b2 o2 l2.length c2)]⟩), qC 19 [(.agg ⟨[(.slice a1 l1.length c1), (sli b2 o2 l2.length c2)]⟩), (i64 0), (.slice aw ws.length cw)] M2 (i64 (goF l1 0 ws)) M11, qL 23 b1 1 M11 (sli b2 o2 l2.length c2), qC 32 [(i64 (goF l1 0 ws)), (i64 (((l2.length : Nat) : Int)))] M11 (.bool (noneB (goF l1 0 ws) (((l2.length : Nat) : Int)))) M23, qT (!(noneB (goF l1 0 ws) (((l2.length : Nat) : Int)))), qT (!(noneB (goF l1 0 ws) (((l2.length : Nat) : Int)))), qL 23 b1 1 M23 (sli b2 o2 l2.length c2), qT (!(noneB (goF l1 0 ws) (((l2.length : Nat) : Int)))), qT (!(noneB (goF l1 0 ws) (((l2.length : Nat) : Int)))), .q (.inb (goF l1 0 ws) l2.length) (ansB true), qT (!(noneB (goF l1 0 ws) (((l2.length : Nat) : Int)))), qL 4 b2 (o2 + (goF l1 0 ws : Int).toNat * 1) M23 (.bool (accAt l2 (goF l1 0 ws))), qT (!(noneB (goF l1 0 ws) (((l2.length : Nat) : Int))))]) := by kernel_rfl
theorem w21_s (a1 : Option Addr) (c1 : Nat) (b2 o2 c2 : Nat) (l1 : List (List Int)) (l2 : List Bool) (aw : Option Addr) (cw : Nat) (ws : List Int)  {M : Mem} (hM : MemOk M) (hd : DfaAt M (.agg ⟨[.slice a1 l1.length c1, .slice (some ⟨b2, o2, none⟩) l2.length c2]⟩) l1 l2) (_ : FlatAt 5 M (.slice a1 l1.length c1) l1) (hs2 : BoolsAt M (.slice (some ⟨b2, o2, none⟩) l2.length c2) l2) (hw : FlatAt 1 M (.slice aw ws.length cw) (ws.map ([·]))) (hin : 0 ≤ goF l1 0 ws ∧ goF l1 0 ws < ((l2.length : Nat) : Int)) (cc0 : (noneB (goF l1 0 ws) (((l2.length : Nat) : Int))) = false) : ∃ M', Ev Tryd.prog [] 21 [(.agg ⟨[(.slice a1 l1.length c1), (sli b2 o2 l2.length c2)]⟩), (.slice aw ws.length cw)] M (.bool (accAt l2 (goF l1 0 ws))) M' ∧ Ext M M' := by
  obtain ⟨b1, M2, eb3, em4, g5, E6, hM7⟩ := new_t hM ⟨[(.slice a1 l1.length c1), (sli b2 o2 l2.length c2)], 25, 2, 0, true⟩
  have nb1 : M.next ≤ b1 := by rw [← eb3]; exact (Ext.refl M).next
  have X8 := (Ext.refl M).trans E6
  obtain ⟨w9, N10, M11, p12, l13, e14, E15, hM16, Q17, G18⟩ := call_t (P := Tryd.prog) (GL := []) (f := 19) hM7 (con19 0 (MemOk.log hM7) (hd.Ext X8).log (hw.Ext X8).log)
  have g19 := E15.old g5
  have ew9 := Qgo.val (hd.Ext X8).log (hw.Ext X8).log Q17
  subst ew9
  have X20 := X8.trans E15
  obtain ⟨w21, N22, M23, p24, l25, e26, E27, hM28, Q29, G30⟩ := call_t (P := Tryd.prog) (GL := []) (f := 32) hM16 (con32 (goF l1 0 ws) (((l2.length : Nat) : Int)) (MemOk.log hM16))
  have g31 := E27.old g19
  have ew21 : w21 = (.bool (noneB (goF l1 0 ws) (((l2.length : Nat) : Int)))) := (Option.some.inj Q29).symm
  subst ew21
  have X32 := X20.trans E27
  exact ⟨M23, Ev.told_tmp noNumP mixedP Tryd.func21 q21_ok (by kernel_rfl) rK21 (fun B => specsB_ok (k := []) (hS21_19_32 B) (fun p hp => by cases hp)) (fun _ _ => rfl) (w21_s_raw a1 c1 b2 o2 c2 l1 l2 aw cw ws M b1 M2 M11 M23) (hk (q_eq (by rw [← eb3, ← em4]; kernel_rfl) Nat.one_ne_zero) (hk (lA ⟨dA25, dS25⟩ g5 rfl) (hk (q_call rfl p12 l13 e14) (hk (lC dC23 g19 rfl) (hk (q_call rfl p24 l25 e26) (hk (bT (by rw [cc0]; rfl)) (hk (bT (by rw [cc0]; rfl)) (hk (lC dC23 g31 rfl) (hk (bT (by rw [cc0]; rfl)) (hk (bT (by rw [cc0]; rfl)) (hk (q_inb (hin).1 (hin).2) (hk (bT (by rw [cc0]; rfl)) (hk (q_ld (aload_ext X32 (load_acc hs2 (hin).1 (hin).2))) (hk (bT (by rw [cc0]; rfl)) hn)))))))))))))), X32⟩
def Qrun : List Value → Mem → Value → Mem → Prop := fun args M v _ => ∃ x l1 l2 L ws, args = [x, L] ∧ DfaAt M x l1 l2 ∧ FlatAt 1 M L (ws.map ([·])) ∧ v = .bool (runF l1 l2 ws)
theorem Qrun.val {x L : Value} {l1 : List (List Int)} {l2 : List Bool} {ws : List Int} {M M' : Mem} {v : Value} (h : DfaAt M x l1 l2) (hw : FlatAt 1 M L (ws.map ([·]))) (hq : Qrun [x, L] M v M') : v = .bool (runF l1 l2 ws) := by
  obtain ⟨x', l1', l2', L', ws', h1, h2, h3, rfl⟩ := hq
  simp only [List.cons.injEq, and_true] at h1
  obtain ⟨rfl, rfl⟩ := h1
  obtain ⟨rfl, rfl⟩ := h.unique h2
  have e2 := one_inj (hw.unique h3)
  rw [e2]
theorem con21 {x : Value} {l1 : List (List Int)} {l2 : List Bool} {aw : Option Addr} {cw : Nat} {ws : List Int} {M : Mem} (hM : MemOk M) (h : DfaAt M x l1 l2) (hw : FlatAt 1 M (.slice aw ws.length cw) (ws.map ([·]))) : ∃ v M', Con Tryd.prog [] 21 Qrun [x, .slice aw ws.length cw] M v M' := by
  have h0 := h
  obtain ⟨L1, L2, rfl, h2, h3⟩ := h.at_
  obtain ⟨a1, c1, rfl⟩ := h2.form
  obtain ⟨a2, c2, rfl⟩ := h3.form
  cases hn : noneB (goF l1 0 ws) ((l2.length : Nat) : Int) with
  | true =>
    obtain ⟨M', k1, k2⟩ := w21_o a1 c1 a2 c2 l1 l2 aw cw ws hM h0 h2 h3 hw hn
    exact ⟨_, M', k1, k2, _, l1, l2, _, ws, rfl, h0, hw, by simp [runF, hn]⟩
  | false =>
    have hin := noneB_false hn
    obtain ⟨b2, o2, rfl⟩ := someB_of h3 (by omega)
    obtain ⟨M', k1, k2⟩ := w21_s a1 c1 b2 o2 c2 l1 l2 aw cw ws hM h0 h2 h3 hw hin hn
    exact ⟨_, M', k1, k2, _, l1, l2, _, ws, rfl, h0, hw, by simp [runF, hn]⟩
end Go.Proofs.YtepgijgmnijdpaaDoor

open Go Go.Am Go.Proofs
namespace Go.Proofs.YtepgijgmnijdpaaDoor
set_option maxRecDepth 100000
def gMod2 : List Value → Option Value
  | [.int .i64 x, .int .i64 n] => some (i64 (modI x n))
  | _ => none
def Q33 : List Value → Mem → Value → Mem → Prop := fun args M v M' => gMod2 args = some v ∧ M'.next = M.next
theorem con33 (x n : Int) (h : (decide (0 < n) && decide (n < 2 ^ 62)) = true) {M : Mem} : ∃ v M', Con Tryd.prog [] 33 Q33 [i64 x, i64 n] M v M' :=
  ⟨i64 (modI x n), M, Ev.of_spec okModb (by show (bif decide (0 < n) && decide (n < 2 ^ 62) then some (i64 (modI x n), M) else none) = _; rw [h]; rfl), Ext.refl M, rfl, rfl⟩
theorem hS18_33 (B : Bd) : ∀ p ∈ ([(33, pick (Con Tryd.prog [] 33 Q33))] : List (FuncId × (List Value → Mem → Option (Value × Mem)))), SpecOk Tryd.prog [] B p.1 p.2 := (fun p hp => by simp only [List.mem_cons, List.not_mem_nil, or_false] at hp; rcases hp with rfl <;> first | exact Con.ok _)
theorem r18n_raw (bb o q c mx i : Nat) (few z : Int) (M : Mem) (M8 : Mem) (M20 : Mem) (b30 : Nat) (M31 : Mem) (b39 : Nat) (M40 : Mem) : oR Tryd.prog [] 40 Tryd.f18 (q18.loopAt 0) [(0, (sli bb o q c)), (1, (i64 (((mx : Nat) : Int)))), (2, (i64 few)), (7, sln), (8, (i64 (((i : Nat) : Int))))] M [ttT 10, ttT 12, ttT 14, ttT 17, ttT 18, ttT 26, ttL 28 (i64 z), ttV 32 (i64 (modI few 5)) M8, ttV 36 (i64 (modI z (IntKind.wrap .i64 ((1 : Int) + (modI few 5))))) M20, ttV 38 (sli b30 0 1 2) M31, .at 40 (1, .val (sli b39 0 1 1), M40)] [0, 1, 2, 7, 8] = some (.normal, [some (sli bb o q c), some (i64 (((mx : Nat) : Int))), some (i64 few), some (sli b39 0 1 1), some (i64 (IntKind.wrap .i64 ((((i : Nat) : Int)) + (1 : Int))))], (Mem.mk M40.blks M40.next M.hide (M40.log ++ M.log)), [qT (decide ((((i : Nat) : Int)) < (((q : Nat) : Int)))), qT (decide ((((i : Nat) : Int)) < (((q : Nat) : Int)))), qT (decide ((((i : Nat) : Int)) < (((q : Nat) : Int)))), qT (decide ((((i : Nat) : Int)) < (((q : Nat) : Int)))), qT (decide ((((i : Nat) : Int)) < (((mx : Nat) : Int)))), .q (.inb (((i : Nat) : Int)) q) (ansB true), qL 3 bb (o + (((i : Nat) : Int) : Int).toNat * 1) (Mem.mk M.blks M.next M.hide []) (i64 z), qT (Nat.blt bb M.next), qC 33 [(i64 few), (i64 5)] (Mem.mk M.blks M.next M.hide []) (i64 (modI few 5)) M8, qC 33 [(i64 z), (i64 (IntKind.wrap .i64 ((1 : Int) + (modI few 5))))] (Mem.mk M8.blks M8.next M.hide M8.log) (i64 (modI z (IntKind.wrap .i64 ((1 : Int) + (modI few 5))))) M20, .eq (abuildSlice Tryd.prog 26 1 [(0, (i64 (modI z (IntKind.wrap .i64 ((1 : Int) + (modI few 5))))))] (Mem.mk M20.blks M20.next M.hide M20.log)) (1, .val (sli b30 0 1 2), M31), .q (.append [26, 26] sln (sli b30 0 1 2) (Mem.mk M31.blks M31.next M.hide M31.log)) (1, .val (sli b39 0 1 1), M40), qT (apartN [bb] M40.log)]) := by kernel_rfl
theorem r18n (bb o q c mx i : Nat) (few z : Int) {M : Mem} (hM : MemOk M) {M0 : Mem} (X0 : Ext M0 M) (hF : 1 ≤ IntKind.wrap .i64 ((1 : Int) + (modI few 5)) ∧ IntKind.wrap .i64 ((1 : Int) + (modI few 5)) ≤ 5) (hi : i < 1000) (ltbbM : bb < M.next) (hld : aload Tryd.prog 3 ⟨bb, o + i * 1, none⟩ M = some (i64 z)) (cc0 : (decide ((((i : Nat) : Int)) < (((q : Nat) : Int)))) = true) (cc1 : (decide ((((i : Nat) : Int)) < (((mx : Nat) : Int)))) = true) : ∃ T1 M' b, Rd Tryd.prog [] (q18.loopAt 0) Tryd.f18.ntmps (fr [(0, (sli bb o q c)), (1, (i64 (((mx : Nat) : Int)))), (2, (i64 few)), (7, sln), (8, (i64 (((i : Nat) : Int))))]) M .normal T1 M' ∧ [0, 1, 2, 7, 8].map T1.get = [some (sli bb o q c), some (i64 (((mx : Nat) : Int))), some (i64 few), some (sli b 0 1 1), some (i64 (IntKind.wrap .i64 ((((i : Nat) : Int)) + (1 : Int))))] ∧ Ext M0 M' ∧ MemOk M' ∧ M0.next ≤ b ∧ M'.get b = some ⟨[(i64 (modI z (IntKind.wrap .i64 ((1 : Int) + (modI few 5)))))], 3, 1, 0, true⟩ := by
  obtain ⟨R1, eR2⟩ : ∃ m : Mem, m = Mem.mk M.blks M.next M.hide [] := ⟨_, rfl⟩
  have X3 : Ext (Mem.mk M0.blks M0.next M0.hide []) R1 := by rw [eR2]; exact Ext.aside (X0)
  have lg4 : R1.log = [] := by rw [eR2]
  have nxR1 : R1.next = M.next := by rw [eR2]
  have hM5 : MemOk R1 := by rw [eR2]; exact MemOk.log hM
  obtain ⟨w6, N7, M8, p9, l10, e11, E12, hM13, Q14, G15⟩ := call_t (P := Tryd.prog) (GL := []) (f := 33) hM5 (con33 few 5 (by decide))
  have ew6 : w6 = (i64 (modI few 5)) := (Option.some.inj Q14.1).symm
  subst ew6
  have nxM8 : M8.next = R1.next := by rw [← e11]; exact Q14.2
  have lg16 : M8.log = [] := by rw [← e11]; exact lg4
  have X17 := X3.trans E12
  obtain ⟨w18, N19, M20, p21, l22, e23, E24, hM25, Q26, G27⟩ := call_t (P := Tryd.prog) (GL := []) (f := 33) hM13 (con33 z (IntKind.wrap .i64 ((1 : Int) + (modI few 5))) (by simp <;> omega))
  have ew18 : w18 = (i64 (modI z (IntKind.wrap .i64 ((1 : Int) + (modI few 5))))) := (Option.some.inj Q26.1).symm
  subst ew18
  have nxM20 : M20.next = M8.next := by rw [← e23]; exact Q26.2
  have lg28 : M20.log = [] := by rw [← e23]; exact lg16
  have X29 := X17.trans E24
  obtain ⟨b30, M31, eb32, em33, g34, E35, hM36⟩ := new_t hM25 ⟨[(i64 (modI z (IntKind.wrap .i64 ((1 : Int) + (modI few 5)))))], 3, 1, 0, true⟩
  have nb30 : M0.next ≤ b30 := by rw [← eb32]; exact X29.next
  have lg37 : M31.log = [] := by rw [← em33]; exact lg28
  have X38 := X29.trans E35
  obtain ⟨b39, M40, eb41, em42, g43, E45, hM44⟩ := new_t hM36 ⟨[(i64 (modI z (IntKind.wrap .i64 ((1 : Int) + (modI few 5)))))], 3, 1, 0, true⟩
  have nb39 : M0.next ≤ b39 := by rw [← eb41]; exact X38.next
  have db30b39 : b30 ≠ b39 := by have := Mem.lt_of_get g34; omega
  have g46 := E45.old g34
  have X47 := X38.trans E45
  have lg48 : M40.log = [] := by rw [← em42]; exact lg37
  obtain ⟨M49, ef50⟩ : ∃ m : Mem, m = (Mem.mk M40.blks M40.next M40.hide (M40.log ++ M.log)) := ⟨_, rfl⟩
  have X51 : Ext M0 M49 := by rw [ef50]; exact Ext.join (X0) (X47)
  have hM52 : MemOk M49 := by rw [ef50]; exact hM44
  have g53 : M49.get b30 = some ⟨[(i64 (modI z (IntKind.wrap .i64 ((1 : Int) + (modI few 5)))))], 3, 1, 0, true⟩ := by rw [ef50]; exact g46
  have g54 : M49.get b39 = some ⟨[(i64 (modI z (IntKind.wrap .i64 ((1 : Int) + (modI few 5)))))], 3, 1, 0, true⟩ := by rw [ef50]; exact g43
  have hraw := r18n_raw bb o q c mx i few z M M8 M20 b30 M31 b39 M40
  have rw0 : Mem.mk M.blks M.next M.hide [] = R1 := eR2.symm
  have rw1 : Mem.mk M8.blks M8.next M.hide M8.log = M8 := by rw [(show M.hide = M8.hide from ((X0).hide.trans (X17).hide.symm))]
  have rw2 : Mem.mk M20.blks M20.next M.hide M20.log = M20 := by rw [(show M.hide = M20.hide from ((X0).hide.trans (X29).hide.symm))]
  have rw3 : Mem.mk M31.blks M31.next M.hide M31.log = M31 := by rw [(show M.hide = M31.hide from ((X0).hide.trans (X38).hide.symm))]
  have rw4 : Mem.mk M40.blks M40.next M.hide M40.log = M40 := by rw [(show M.hide = M40.hide from ((X0).hide.trans (X47).hide.symm))]
  have rw5 : (Mem.mk M40.blks M40.next M.hide (M40.log ++ M.log)) = (Mem.mk M40.blks M40.next M40.hide (M40.log ++ M.log)) := by rw [(show M.hide = M40.hide from ((X0).hide.trans (X47).hide.symm))]
  have rw6 : (Mem.mk M40.blks M40.next M40.hide (M40.log ++ M.log)) = M49 := ef50.symm
  try rw [rw0] at hraw
  try rw [rw1] at hraw
  try rw [rw2] at hraw
  try rw [rw3] at hraw
  try rw [rw4] at hraw
  try rw [rw5] at hraw
  try rw [rw6] at hraw
  obtain ⟨T1, h1, h2⟩ := Rd.told noNumP mixedP (fun B => specsB_ok (k := []) (hS18_33 B) (fun p hp => by cases hp)) (fun _ _ => rfl) hraw (hk (bT cc0) (hk (bT cc0) (hk (bT cc0) (hk (bT cc0) (hk (bT cc1) (hk (q_inb (by omega) (by have := of_decide_eq_true cc0; omega)) (hk (q_ld (by rw [eR2]; exact hld)) (hk (q_lt ltbbM) (hk (q_call rfl p9 l10 e11) (hk (q_call rfl p21 l22 e23) (hk (q_eq (by rw [← eb32, ← em33]; kernel_rfl) Nat.one_ne_zero) (hk (q_app (by rw [← eb41, ← em42]; exact append_nil (w := 1) (by kernel_rfl) (by kernel_rfl) (y := 8) (by kernel_rfl) (by decide) (by decide) g34 rfl rfl rfl) Nat.one_ne_zero) (hk (q_apart (by rw [lg48]; simp <;> omega)) hn)))))))))))))
  exact ⟨T1, M49, b39, h1, h2, X51, hM52, nb39, g54⟩
theorem r18s_raw (bb o q c mx i : Nat) (few z : Int) (bw : Nat) (_ : List Value) (M : Mem) (M9 : Mem) (M22 : Mem) (b33 : Nat) (M34 : Mem) (b45 : Nat) (M46 : Mem) : oR Tryd.prog [] 40 Tryd.f18 (q18.loopAt 0) [(0, (sli bb o q c)), (1, (i64 (((mx : Nat) : Int)))), (2, (i64 few)), (7, (sli bw 0 i i)), (8, (i64 (((i : Nat) : Int))))] M [ttT 10, ttT 12, ttT 14, ttT 17, ttT 18, ttT 26, ttL 28 (i64 z), ttV 32 (i64 (modI few 5)) M9, ttV 36 (i64 (modI z (IntKind.wrap .i64 ((1 : Int) + (modI few 5))))) M22, ttV 38 (sli b33 0 1 2) M34, .at 40 (2, .val (sli b45 0 (i + 1) (i + 1)), M46)] [0, 1, 2, 7, 8] = some (.normal, [some (sli bb o q c), some (i64 (((mx : Nat) : Int))), some (i64 few), some (sli b45 0 (i + 1) (i + 1)), some (i64 (IntKind.wrap .i64 ((((i : Nat) : Int)) + (1 : Int))))], (Mem.mk M46.blks M46.next M.hide (M46.log ++ M.log)), [qT (decide ((((i : Nat) : Int)) < (((q : Nat) : Int)))), qT (decide ((((i : Nat) : Int)) < (((q : Nat) : Int)))), qT (decide ((((i : Nat) : Int)) < (((q : Nat) : Int)))), qT (decide ((((i : Nat) : Int)) < (((q : Nat) : Int)))), qT (decide ((((i : Nat) : Int)) < (((mx : Nat) : Int)))), .q (.inb (((i : Nat) : Int)) q) (ansB true), qL 3 bb (o + (((i : Nat) : Int) : Int).toNat * 1) (Mem.mk M.blks M.next M.hide []) (i64 z), qT (Nat.blt bb M.next), qC 33 [(i64 few), (i64 5)] (Mem.mk M.blks M.next M.hide []) (i64 (modI few 5)) M9, qC 33 [(i64 z), (i64 (IntKind.wrap .i64 ((1 : Int) + (modI few 5))))] (Mem.mk M9.blks M9.next M.hide M9.log) (i64 (modI z (IntKind.wrap .i64 ((1 : Int) + (modI few 5))))) M22, .eq (abuildSlice Tryd.prog 26 1 [(0, (i64 (modI z (IntKind.wrap .i64 ((1 : Int) + (modI few 5))))))] (Mem.mk M22.blks M22.next M.hide M22.log)) (1, .val (sli b33 0 1 2), M34), .q (.append [26, 26] (sli bw 0 i i) (sli b33 0 1 2) (Mem.mk M34.blks M34.next M.hide M34.log)) (2, .val (sli b45 0 (i + 1) (i + 1)), M46), qT (apartN [bb] M46.log)]) := by kernel_rfl
theorem r18s (bb o q c mx i : Nat) (few z : Int) (bw : Nat) (cs : List Value) {M : Mem} (hM : MemOk M) {M0 : Mem} (X0 : Ext M0 M) (hF : 1 ≤ IntKind.wrap .i64 ((1 : Int) + (modI few 5)) ∧ IntKind.wrap .i64 ((1 : Int) + (modI few 5)) ≤ 5) (hi : i < 1000) (ltbbM : bb < M.next) (hld : aload Tryd.prog 3 ⟨bb, o + i * 1, none⟩ M = some (i64 z)) (dbb : bb ≠ bw) (nbw : M0.next ≤ bw) (gw : M.get bw = some ⟨cs, 3, 1, 0, true⟩) (hcs : cs.length = i * 1) (cc0 : (decide ((((i : Nat) : Int)) < (((q : Nat) : Int)))) = true) (cc1 : (decide ((((i : Nat) : Int)) < (((mx : Nat) : Int)))) = true) : ∃ T1 M' b, Rd Tryd.prog [] (q18.loopAt 0) Tryd.f18.ntmps (fr [(0, (sli bb o q c)), (1, (i64 (((mx : Nat) : Int)))), (2, (i64 few)), (7, (sli bw 0 i i)), (8, (i64 (((i : Nat) : Int))))]) M .normal T1 M' ∧ [0, 1, 2, 7, 8].map T1.get = [some (sli bb o q c), some (i64 (((mx : Nat) : Int))), some (i64 few), some (sli b 0 (i + 1) (i + 1)), some (i64 (IntKind.wrap .i64 ((((i : Nat) : Int)) + (1 : Int))))] ∧ Ext M0 M' ∧ MemOk M' ∧ M0.next ≤ b ∧ M'.get b = some ⟨cs ++ [(i64 (modI z (IntKind.wrap .i64 ((1 : Int) + (modI few 5)))))], 3, 1, 0, true⟩ := by
  obtain ⟨R1, eR2⟩ : ∃ m : Mem, m = Mem.mk M.blks M.next M.hide [] := ⟨_, rfl⟩
  have X3 : Ext (Mem.mk M0.blks M0.next M0.hide []) R1 := by rw [eR2]; exact Ext.aside (X0)
  have lg4 : R1.log = [] := by rw [eR2]
  have nxR1 : R1.next = M.next := by rw [eR2]
  have hM5 : MemOk R1 := by rw [eR2]; exact MemOk.log hM
  have ltbwM : bw < M.next := Mem.lt_of_get gw
  have g6 : R1.get bw = some ⟨cs, 3, 1, 0, true⟩ := by rw [eR2]; exact gw
  obtain ⟨w7, N8, M9, p10, l11, e12, E13, hM14, Q15, G16⟩ := call_t (P := Tryd.prog) (GL := []) (f := 33) hM5 (con33 few 5 (by decide))
  have g17 := E13.old g6
  have ew7 : w7 = (i64 (modI few 5)) := (Option.some.inj Q15.1).symm
  subst ew7
  have nxM9 : M9.next = R1.next := by rw [← e12]; exact Q15.2
  have lg18 : M9.log = [] := by rw [← e12]; exact lg4
  have X19 := X3.trans E13
  obtain ⟨w20, N21, M22, p23, l24, e25, E26, hM27, Q28, G29⟩ := call_t (P := Tryd.prog) (GL := []) (f := 33) hM14 (con33 z (IntKind.wrap .i64 ((1 : Int) + (modI few 5))) (by simp <;> omega))
  have g30 := E26.old g17
  have ew20 : w20 = (i64 (modI z (IntKind.wrap .i64 ((1 : Int) + (modI few 5))))) := (Option.some.inj Q28.1).symm
  subst ew20
  have nxM22 : M22.next = M9.next := by rw [← e25]; exact Q28.2
  have lg31 : M22.log = [] := by rw [← e25]; exact lg18
  have X32 := X19.trans E26
  obtain ⟨b33, M34, eb35, em36, g37, E38, hM39⟩ := new_t hM27 ⟨[(i64 (modI z (IntKind.wrap .i64 ((1 : Int) + (modI few 5)))))], 3, 1, 0, true⟩
  have nb33 : M0.next ≤ b33 := by rw [← eb35]; exact X32.next
  have dbwb33 : bw ≠ b33 := by have := Mem.lt_of_get g30; omega
  have g40 := E38.old g30
  have lg41 : M34.log = [] := by rw [← em36]; exact lg31
  have X42 := X32.trans E38
  obtain ⟨b45, M46, eb47, em48, g49, X44, hM50, kp43⟩ := grow_t X42 nbw hM39 ⟨cs ++ [(i64 (modI z (IntKind.wrap .i64 ((1 : Int) + (modI few 5)))))], 3, 1, 0, true⟩
  have nb45 : M0.next ≤ b45 := by rw [← eb47]; exact X42.next
  have dbwb45 : bw ≠ b45 := by have := Mem.lt_of_get g40; omega
  have db33b45 : b33 ≠ b45 := by have := Mem.lt_of_get g37; omega
  have g51 := (kp43 _ (Ne.symm dbwb33) (Mem.lt_of_get g37)).trans g37
  have lg52 : M46.log = [bw] := by rw [← em48]; exact congrArg (List.cons bw) lg41
  obtain ⟨M53, ef54⟩ : ∃ m : Mem, m = (Mem.mk M46.blks M46.next M46.hide (M46.log ++ M.log)) := ⟨_, rfl⟩
  have X55 : Ext M0 M53 := by rw [ef54]; exact Ext.join (X0) (X44)
  have hM56 : MemOk M53 := by rw [ef54]; exact hM50
  have g57 : M53.get b33 = some ⟨[(i64 (modI z (IntKind.wrap .i64 ((1 : Int) + (modI few 5)))))], 3, 1, 0, true⟩ := by rw [ef54]; exact g51
  have g58 : M53.get b45 = some ⟨cs ++ [(i64 (modI z (IntKind.wrap .i64 ((1 : Int) + (modI few 5)))))], 3, 1, 0, true⟩ := by rw [ef54]; exact g49
  have hraw := r18s_raw bb o q c mx i few z bw cs M M9 M22 b33 M34 b45 M46
  have rw0 : Mem.mk M.blks M.next M.hide [] = R1 := eR2.symm
  have rw1 : Mem.mk M9.blks M9.next M.hide M9.log = M9 := by rw [(show M.hide = M9.hide from ((X0).hide.trans (X19).hide.symm))]
  have rw2 : Mem.mk M22.blks M22.next M.hide M22.log = M22 := by rw [(show M.hide = M22.hide from ((X0).hide.trans (X32).hide.symm))]
  have rw3 : Mem.mk M34.blks M34.next M.hide M34.log = M34 := by rw [(show M.hide = M34.hide from ((X0).hide.trans (X42).hide.symm))]
  have rw4 : Mem.mk M46.blks M46.next M.hide M46.log = M46 := by rw [(show M.hide = M46.hide from ((X0).hide.trans (X44).hide.symm))]
  have rw5 : (Mem.mk M46.blks M46.next M.hide (M46.log ++ M.log)) = (Mem.mk M46.blks M46.next M46.hide (M46.log ++ M.log)) := by rw [(show M.hide = M46.hide from ((X0).hide.trans (X44).hide.symm))]
  have rw6 : (Mem.mk M46.blks M46.next M46.hide (M46.log ++ M.log)) = M53 := ef54.symm
  try rw [rw0] at hraw
  try rw [rw1] at hraw
  try rw [rw2] at hraw
  try rw [rw3] at hraw
  try rw [rw4] at hraw
  try rw [rw5] at hraw
  try rw [rw6] at hraw
  obtain ⟨T1, h1, h2⟩ := Rd.told noNumP mixedP (fun B => specsB_ok (k := []) (hS18_33 B) (fun p hp => by cases hp)) (fun _ _ => rfl) hraw (hk (bT cc0) (hk (bT cc0) (hk (bT cc0) (hk (bT cc0) (hk (bT cc1) (hk (q_inb (by omega) (by have := of_decide_eq_true cc0; omega)) (hk (q_ld (by rw [eR2]; exact hld)) (hk (q_lt ltbbM) (hk (q_call rfl p10 l11 e12) (hk (q_call rfl p23 l24 e25) (hk (q_eq (by rw [← eb35, ← em36]; kernel_rfl) Nat.one_ne_zero) (hk (q_app (by rw [← eb47, ← em48]; exact append_more (w := 1) (by kernel_rfl) (by kernel_rfl) (by kernel_rfl) (y := 8) (by kernel_rfl) (by decide) (by decide) (by omega) g37 rfl rfl rfl g40 hcs rfl rfl rfl rfl) (Nat.succ_ne_zero _)) (hk (q_apart (by rw [lg52]; simp <;> omega)) hn)))))))))))))
  exact ⟨T1, M53, b45, h1, h2, X55, hM56, nb45, g58⟩
theorem r18x_0_raw (a : Option Addr) (q c mx i : Nat) (few : Int) (sa : Option Addr) (sn sc : Nat) (M : Mem)  : oR Tryd.prog [] 40 Tryd.f18 (q18.loopAt 0) [(0, (.slice a q c)), (1, (i64 (((mx : Nat) : Int)))), (2, (i64 few)), (7, (.slice sa sn sc)), (8, (i64 (((i : Nat) : Int))))] M [ttT 5, ttT 10, ttT 12, ttT 14, ttT 17, ttF 18] [7] = some ((.exit 0), [some (.slice sa sn sc)], M, [.ln a q c, qT (decide ((((i : Nat) : Int)) < (((q : Nat) : Int)))), qT (decide ((((i : Nat) : Int)) < (((q : Nat) : Int)))), qT (decide ((((i : Nat) : Int)) < (((q : Nat) : Int)))), qT (decide ((((i : Nat) : Int)) < (((q : Nat) : Int)))), qF (decide ((((i : Nat) : Int)) < (((mx : Nat) : Int))))]) := by kernel_rfl
theorem r18x_0 (a : Option Addr) (q c mx i : Nat) (few : Int) (sa : Option Addr) (sn sc : Nat) {M : Mem} (hln : a.isNone = true → q = 0 ∧ c = 0) (cc0 : (decide ((((i : Nat) : Int)) < (((q : Nat) : Int)))) = true) (cc1 : (decide ((((i : Nat) : Int)) < (((mx : Nat) : Int)))) = false) : ∃ T1, Rd Tryd.prog [] (q18.loopAt 0) Tryd.f18.ntmps (fr [(0, (.slice a q c)), (1, (i64 (((mx : Nat) : Int)))), (2, (i64 few)), (7, (.slice sa sn sc)), (8, (i64 (((i : Nat) : Int))))]) M (.exit 0) T1 M ∧ [7].map T1.get = [some (.slice sa sn sc)] := by
  obtain ⟨T1, h1, h2⟩ := Rd.told noNumP mixedP (specs_none Tryd.prog) (fun _ _ => rfl) (r18x_0_raw a q c mx i few sa sn sc M ) (hk (lN hln) (hk (bT cc0) (hk (bT cc0) (hk (bT cc0) (hk (bT cc0) (hk (bF cc1) hn))))))
  exact ⟨T1, h1, h2⟩
theorem r18x_1_raw (a : Option Addr) (q c mx i : Nat) (few : Int) (sa : Option Addr) (sn sc : Nat) (M : Mem)  : oR Tryd.prog [] 40 Tryd.f18 (q18.loopAt 0) [(0, (.slice a q c)), (1, (i64 (((mx : Nat) : Int)))), (2, (i64 few)), (7, (.slice sa sn sc)), (8, (i64 (((i : Nat) : Int))))] M [ttT 5, ttF 10, ttF 12, ttF 14, ttF 17] [7] = some ((.exit 0), [some (.slice sa sn sc)], M, [.ln a q c, qF (decide ((((i : Nat) : Int)) < (((q : Nat) : Int)))), qF (decide ((((i : Nat) : Int)) < (((q : Nat) : Int)))), qF (decide ((((i : Nat) : Int)) < (((q : Nat) : Int)))), qF (decide ((((i : Nat) : Int)) < (((q : Nat) : Int))))]) := by kernel_rfl
theorem r18x_1 (a : Option Addr) (q c mx i : Nat) (few : Int) (sa : Option Addr) (sn sc : Nat) {M : Mem} (hln : a.isNone = true → q = 0 ∧ c = 0) (cc0 : (decide ((((i : Nat) : Int)) < (((q : Nat) : Int)))) = false) : ∃ T1, Rd Tryd.prog [] (q18.loopAt 0) Tryd.f18.ntmps (fr [(0, (.slice a q c)), (1, (i64 (((mx : Nat) : Int)))), (2, (i64 few)), (7, (.slice sa sn sc)), (8, (i64 (((i : Nat) : Int))))]) M (.exit 0) T1 M ∧ [7].map T1.get = [some (.slice sa sn sc)] := by
  obtain ⟨T1, h1, h2⟩ := Rd.told noNumP mixedP (specs_none Tryd.prog) (fun _ _ => rfl) (r18x_1_raw a q c mx i few sa sn sc M ) (hk (lN hln) (hk (bF cc0) (hk (bF cc0) (hk (bF cc0) (hk (bF cc0) hn)))))
  exact ⟨T1, h1, h2⟩
end Go.Proofs.YtepgijgmnijdpaaDoor

open Go Go.Am Go.Proofs
namespace Go.Proofs.YtepgijgmnijdpaaDoor
set_option maxRecDepth 100000
abbrev wF (few : Int) : Int := IntKind.wrap .i64 ((1 : Int) + (modI few 5))
theorem wF_range (few : Int) : 1 ≤ wF few ∧ wF few ≤ 5 := by
  have h := modI_range (x := few) (n := 5) (by decide)
  have h2 : wF few = 1 + modI few 5 := wr_small (by omega) (by omega)
  omega
def wordI (few : Int) (ns : List Int) : List Int := ns.map fun z => modI z (wF few)
theorem wordI_snoc (few : Int) (ns : List Int) (z : Int) : wordI few (ns ++ [z]) = wordI few ns ++ [modI z (wF few)] := by simp [wordI]
def WordN (M0 M : Mem) (S : Value) (l : List Int) (b : Nat) : Prop :=
  (l = [] ∧ S = sln) ∨ (S = sli b 0 l.length l.length ∧ 0 < l.length ∧ M0.next ≤ b ∧ M.get b = some ⟨l.map i64, 3, 1, 0, true⟩)
theorem WordN.shape {M0 M : Mem} {S : Value} {l : List Int} {b : Nat} (h : WordN M0 M S l b) : ∃ a c, S = .slice a l.length c := by
  rcases h with ⟨rfl, h⟩ | ⟨h, _⟩
  · exact ⟨_, _, h⟩
  · exact ⟨_, _, h⟩
theorem WordN.flat {M0 M : Mem} {S : Value} {l : List Int} {b : Nat} (h : WordN M0 M S l b) (hl : l.length ≤ 1000) : FlatAt 1 M S (l.map ([·])) := by
  have hi : (irows (l.map ([·]))).flatten = l.map i64 := by
    clear h hl
    induction l with
    | nil => rfl
    | cons x l ih =>
      have : irows ((x :: l).map ([·])) = [i64 x] :: irows (l.map ([·])) := rfl
      rw [this, List.flatten_cons, ih]; rfl
  refine ⟨?_, fun r hr => by obtain ⟨k, _, rfl⟩ := List.mem_map.1 hr; rfl, by rw [List.length_map]; omega⟩
  rw [List.length_map]
  rcases h with ⟨rfl, rfl⟩ | ⟨rfl, _, _, h7⟩
  · exact .inl ⟨_, rfl, rfl⟩
  · exact .inr ⟨b, 0, l.length, _, [], [], rfl, h7, by simp [hi], rfl, fun r hr => irows_wide (w := 1) (fun r hr => by obtain ⟨k, _, rfl⟩ := List.mem_map.1 hr; rfl) r hr⟩
structure WSt (M0 M : Mem) (S : Value) (l : List Int) : Prop where
  ext : Ext M0 M
  ok : MemOk M
  at_ : ∃ b, WordN M0 M S l b
theorem loop18 {M0 : Mem} {a : Option Addr} {c mx : Nat} {ns : List Int} {few : Int} (hmx : mx ≤ 100) (hs0 : FlatAt 1 M0 (.slice a ns.length c) (ns.map ([·]))) : ∀ (k i : Nat), i + k = mx → i ≤ ns.length → ∀ {M : Mem} {S : Value}, WSt M0 M S (wordI few (ns.take i)) →
    ∃ M' S', LoopR Tryd.prog [] (q18.loopAt 0) Tryd.f18.ntmps (fr [(0, .slice a ns.length c), (1, i64 ((mx : Nat) : Int)), (2, i64 few), (7, S), (8, i64 ((i : Nat) : Int))]) M (.exit 0) (fr [(7, S')]) M' ∧ WSt M0 M' S' (wordI few (ns.take mx)) := by
  have out : ∀ (i : Nat) {M : Mem} {S : Value}, (mx ≤ i ∨ ns.length ≤ i) → i ≤ mx → i ≤ ns.length → WSt M0 M S (wordI few (ns.take i)) →
      ∃ M' S', LoopR Tryd.prog [] (q18.loopAt 0) Tryd.f18.ntmps (fr [(0, .slice a ns.length c), (1, i64 ((mx : Nat) : Int)), (2, i64 few), (7, S), (8, i64 ((i : Nat) : Int))]) M (.exit 0) (fr [(7, S')]) M' ∧ WSt M0 M' S' (wordI few (ns.take mx)) := by
    intro i M S ho hi1 hi2 h
    have ht : ns.take i = ns.take mx := by
      rcases ho with ho | ho
      · rw [show i = mx by omega]
      · rw [List.take_of_length_le ho, List.take_of_length_le (by omega)]
    rw [ht] at h
    obtain ⟨b, hb⟩ := h.at_
    obtain ⟨sa, sc, rfl⟩ := hb.shape
    by_cases hq : i < ns.length
    · obtain ⟨T1, h1, h2⟩ := r18x_0 a ns.length c mx i few sa _ sc (M := M) hs0.ln (decide_eq_true (by omega)) (decide_eq_false (by omega))
      exact ⟨M, _, LoopR.stop h1 (by simp) (TSub.fr (l := [(7, _)]) h2), h⟩
    · obtain ⟨T1, h1, h2⟩ := r18x_1 a ns.length c mx i few sa _ sc (M := M) hs0.ln (decide_eq_false (by omega))
      exact ⟨M, _, LoopR.stop h1 (by simp) (TSub.fr (l := [(7, _)]) h2), h⟩
  intro k
  induction k with
  | zero =>
    intro i hi hin M S h
    exact out i (.inl (by omega)) (by omega) hin h
  | succ k ih =>
    intro i hi hin M S h
    by_cases hq : i < ns.length
    · have hsM := hs0.Ext h.ext
      obtain ⟨bb, o, rfl, hld⟩ := one_at hsM (by omega)
      obtain ⟨_, _, he, hl0⟩ := one_at hs0 (by omega)
      cases he
      have hbb : bb < M0.next := by
        rcases id hs0.at_ with ⟨_, _, h0⟩ | ⟨b', o', c', blk, pre, post, e1, e2, _⟩
        · rw [List.length_map] at h0; omega
        · have : bb = b' := by simp only [Value.slice.injEq, Option.some.injEq, Addr.mk.injEq] at e1; exact e1.1.1
          rw [this]; exact Mem.lt_of_get e2
      have hlt := h.ext.next
      have htake : ns.take (i + 1) = ns.take i ++ [ns[i]] := by rw [List.take_add_one, List.getElem?_eq_getElem hq]; rfl
      have hlen : (wordI few (ns.take i)).length = i := by simp [wordI]; omega
      obtain ⟨b, hb⟩ := h.at_
      rcases hb with ⟨hl, rfl⟩ | ⟨hS, hpos, hnb, hg⟩
      · have hi0 : i = 0 := by rw [hl] at hlen; simpa using hlen.symm
        subst hi0
        obtain ⟨T1, M1, b1, e1, e2, e3, e4, e5, e6⟩ := r18n bb o ns.length c mx 0 few ns[0] h.ok h.ext (wF_range few) (by omega) (by omega) (hld 0 hq) (decide_eq_true (by omega)) (decide_eq_true (by omega))
        rw [wrap_succ (by omega)] at e2
        obtain ⟨M2, S', f1, f2⟩ := ih 1 (by omega) (by omega) (M := M1) (S := sli b1 0 1 1) ⟨e3, e4, b1, .inr ⟨by simp [wordI, Nat.min_eq_left (show 1 ≤ ns.length by omega)], by simp [wordI]; omega, e5, by rw [e6, htake, wordI_snoc, hl]; rfl⟩⟩
        exact ⟨M2, S', LoopR.step e1 (TSub.fr (l := [(0, sli bb o ns.length c), (1, i64 ((mx : Nat) : Int)), (2, i64 few), (7, sli b1 0 1 1), (8, i64 ((0 + 1 : Nat) : Int))]) e2) f1, f2⟩
      · rw [hlen] at hS
        subst hS
        obtain ⟨T1, M1, b1, e1, e2, e3, e4, e5, e6⟩ := r18s bb o ns.length c mx i few ns[i] b _ h.ok h.ext (wF_range few) (by omega) (by omega) (hld i hq) (by omega) hnb hg (by rw [List.length_map, hlen]; omega) (decide_eq_true (by omega)) (decide_eq_true (by omega))
        rw [wrap_succ (by omega)] at e2
        have hlen2 : (wordI few (ns.take (i + 1))).length = i + 1 := by simp [wordI]; omega
        obtain ⟨M2, S', f1, f2⟩ := ih (i + 1) (by omega) (by omega) (M := M1) (S := sli b1 0 (i + 1) (i + 1)) ⟨e3, e4, b1, .inr ⟨by rw [hlen2], by omega, e5, by rw [e6, htake, wordI_snoc, List.map_append]; rfl⟩⟩
        exact ⟨M2, S', LoopR.step e1 (TSub.fr (l := [(0, sli bb o ns.length c), (1, i64 ((mx : Nat) : Int)), (2, i64 few), (7, sli b1 0 (i + 1) (i + 1)), (8, i64 ((i + 1 : Nat) : Int))]) e2) f1, f2⟩
    · exact out i (.inr (by omega)) (by omega) hin h
end Go.Proofs.YtepgijgmnijdpaaDoor

open Go Go.Am Go.Proofs
namespace Go.Proofs.YtepgijgmnijdpaaDoor
set_option maxRecDepth 100000
theorem rK18 : Tryd.f18.results = #[.tmp 6] := by kernel_rfl
def Qword : List Value → Mem → Value → Mem → Prop := fun args M v M' => ∃ (L : Value) (ns : List Int) (mx : Nat) (few : Int), args = [L, i64 ((mx : Nat) : Int), i64 few] ∧ FlatAt 1 M L (ns.map ([·])) ∧ ∃ b, WordN M M' v (wordI few (ns.take mx)) b
theorem w18_raw (a : Option Addr) (c : Nat) (ns : List Int) (mx : Nat) (few : Int) (M : Mem) (M1 : Mem) (q5a : Option Addr) (q5c : Nat) : oT Tryd.prog [0] 60 Tryd.f18 q18 [(.slice a ns.length c), i64 ((mx : Nat) : Int), i64 few] M [.blk 6 [0, 1, 2, 7, 8] .normal (fr [(7, (.slice q5a (wordI few (ns.take mx)).length q5c))]) M1] 6 = some (.ret, some (.slice q5a (wordI few (ns.take mx)).length q5c), M1, [.blk 0 (.loop (q18.loopAt 0)) Tryd.f18.ntmps [0, 1, 2, 7, 8] [some (.slice a ns.length c), some (i64 (((mx : Nat) : Int))), some (i64 few), some sln, some (i64 0)] M .normal (fr [(7, (.slice q5a (wordI few (ns.take mx)).length q5c))]) M1]) := by kernel_rfl
theorem con18 (a : Option Addr) (c : Nat) (ns : List Int) (mx : Nat) (few : Int) (hmx : mx ≤ 100) {M : Mem} (hM : MemOk M) (hs : FlatAt 1 M (.slice a ns.length c) (ns.map ([·]))) : ∃ v M', Con Tryd.prog [] 18 Qword [(.slice a ns.length c), i64 ((mx : Nat) : Int), i64 few] M v M' := by
  obtain ⟨M1, S4, hL2, hS3⟩ := loop18 (few := few) hmx hs mx 0 (by omega) (Nat.zero_le _) (M := M) (S := sln) ⟨(Ext.refl M), hM, 0, .inl ⟨rfl, rfl⟩⟩
  obtain ⟨q5b, q5w⟩ := hS3.at_
  obtain ⟨q5a, q5c, eq5⟩ := q5w.shape
  subst eq5
  have hraw := w18_raw a c ns mx few M M1 q5a q5c
  exact ⟨_, _, Ev.told_tmp noNumP mixedP Tryd.func18 q18_ok (by kernel_rfl) rK18 (fun B => specsB_ok (l := []) (fun p hp => by cases hp) (k := [(0, bone (.loop (q18.loopAt 0)) Tryd.f18.ntmps [0, 1, 2, 7, 8] [some (.slice a ns.length c), some (i64 (((mx : Nat) : Int))), some (i64 few), some sln, some (i64 0)] M .normal (fr [(7, (.slice q5a (wordI few (ns.take mx)).length q5c))]) M1)]) (fun p hp => by simp only [List.mem_cons, List.not_mem_nil, or_false] at hp; rcases hp with rfl <;> first | exact BlkOk.loop noNumP mixedP hL2)) (fun _ h => blksF_one h) hraw (hk (q_blk rfl) hn), hS3.ext, _, ns, mx, few, rfl, hs, _, q5w⟩
theorem Qword.val {L v : Value} {ns : List Int} {mx : Nat} {few : Int} {M M' : Mem} (hs : FlatAt 1 M L (ns.map ([·]))) (hq : Qword [L, i64 ((mx : Nat) : Int), i64 few] M v M') : ∃ b, WordN M M' v (wordI few (ns.take mx)) b := by
  obtain ⟨L', ns', mx', few', h1, h2, h3⟩ := hq
  simp only [List.cons.injEq, and_true] at h1
  obtain ⟨rfl, e1, e2⟩ := h1
  have e1 : mx = mx' := by
    have : ((mx : Nat) : Int) = ((mx' : Nat) : Int) := by simpa [i64] using e1
    omega
  have e2 : few = few' := by simpa [i64] using e2
  have e4 := one_inj (hs.unique h2)
  subst e1 e2 e4
  exact h3
theorem irows_one (l : List Int) : (irows (l.map ([·]))).flatten = l.map i64 := by
  induction l with
  | nil => rfl
  | cons x l ih =>
    have : irows ((x :: l).map ([·])) = [i64 x] :: irows (l.map ([·])) := rfl
    rw [this, List.flatten_cons, ih]; rfl
theorem one_wide (l : List Int) : ∀ r ∈ l.map ([·]), r.length = 1 := fun r hr => by obtain ⟨k, _, rfl⟩ := List.mem_map.1 hr; rfl
theorem flat_part {M : Mem} {b w c o n : Nat} {q : Bool} {l u v z : List Int} (hg : M.get b = some ⟨l.map i64, 3, 1, w, q⟩) (e : l = u ++ v ++ z) (ho : o = u.length) (hn : n = v.length) (hl : l.length ≤ 1000) : FlatAt 1 M (.slice (some ⟨b, o, none⟩) n c) (v.map ([·])) := by
  subst e ho hn
  have hv : v.length ≤ 1000 := by simp only [List.length_append] at hl; omega
  refine ⟨?_, one_wide v, by rw [List.length_map]; omega⟩
  rw [List.length_map]
  refine .inr ⟨b, u.length, c, _, u.map i64, z.map i64, rfl, hg, ?_, List.length_map _, fun r hr => irows_wide (w := 1) (one_wide v) r hr⟩
  show (u ++ v ++ z).map i64 = _
  rw [irows_one, List.map_append, List.map_append]
def okW (ws : List Int) : Prop := ∀ z ∈ ws, noneB z (5 : Int) = false
theorem okW_word (few : Int) (ns : List Int) : okW (wordI few ns) := fun z hz => by
  obtain ⟨k, _, rfl⟩ := List.mem_map.1 hz
  have h1 := wF_range few
  have h2 := modI_range (x := k) (n := wF few) (by omega)
  simp [noneB]; omega
theorem go_all {l1 : List (List Int)} (hg : l1.any (badR ((l1.length : Nat) : Int)) = false) (hw : ∀ r ∈ l1, r.length = 5) : ∀ (ws : List Int) (st : Int), okW ws → noneB st ((l1.length : Nat) : Int) = false → ∃ s, goL l1 st ws = some s ∧ noneB s ((l1.length : Nat) : Int) = false
  | [], st, _, h => ⟨st, rfl, h⟩
  | z :: w, st, ho, h => by
    have hz := ho z (List.mem_cons_self ..)
    obtain ⟨s, h1, h2⟩ := go_all hg hw w (cellAt l1 st z) (fun x hx => ho x (List.mem_cons_of_mem _ hx)) (good_cell hg hw h hz)
    exact ⟨s, by simp only [goL, h, hz, Bool.or_false, cond_false]; exact h1, h2⟩
theorem goL_app {l1 : List (List Int)} : ∀ (u v : List Int) (st s : Int), goL l1 st u = some s → goL l1 st (u ++ v) = goL l1 s v
  | [], v, st, s, h => by simp only [goL, Option.some.injEq] at h; rw [h]; rfl
  | z :: u, v, st, s, h => by
    simp only [List.cons_append, goL] at h ⊢
    cases hc : (noneB st ((l1.length : Nat) : Int) || noneB z (5 : Int)) with
    | true => rw [hc] at h; cases h
    | false => rw [hc] at h; exact goL_app u v _ s h
theorem goF_some {l1 : List (List Int)} {st s : Int} {ws : List Int} (h : goL l1 st ws = some s) (hs : noneB s ((l1.length : Nat) : Int) = false) : goF l1 st ws = s := by
  unfold goF
  rw [h]
  simp [hs]
theorem mk_good (x y : Int) (ns : List Int) : (rowsI (nOf x) ns y (nN x)).any (badR (((rowsI (nOf x) ns y (nN x)).length : Nat) : Int)) = false := by
  have h := mk_right x y ns
  simp only [chkB, Bool.and_eq_true, Bool.not_eq_true'] at h
  exact h.2
end Go.Proofs.YtepgijgmnijdpaaDoor
