/-
  What is proved: MiniSteady: a machine of Make's is steady just if a letter twice is a letter once: for every x, y, every word. For every argument; one laid table (math/bits) is tied by the card.
-/
import Derived.Test.YtchnlooenomfnaaGreatDoorS1
set_option linter.unusedVariables false
set_option linter.unusedSimpArgs false
open Go Go.Am Go.Proofs
namespace Go.Proofs.YtchnlooenomfnaaGreatDoor
set_option maxRecDepth 100000
def gMod1 : List Value → Option Value
  | [.int .i64 x, .int .i64 n] => some (i64 (modI x n))
  | _ => none
def Q17 : List Value → Mem → Value → Mem → Prop := fun args M v M' => gMod1 args = some v ∧ M'.next = M.next
theorem con40 (x n : Int) (h : (decide (0 < n) && decide (n < 2 ^ 62)) = true) {M : Mem} : ∃ v M', Con Tryz.prog [] 40 Q17 [i64 x, i64 n] M v M' :=
  ⟨i64 (modI x n), M, Ev.of_spec okMod (by show (bif decide (0 < n) && decide (n < 2 ^ 62) then some (i64 (modI x n), M) else none) = _; rw [h]; rfl), Ext.refl M, rfl, rfl⟩
theorem hS14_17 (B : Bd) : ∀ p ∈ ([(40, pick (Con Tryz.prog [] 40 Q17))] : List (FuncId × (List Value → Mem → Option (Value × Mem)))), SpecOk Tryz.prog [] B p.1 p.2 := (fun p hp => by simp only [List.mem_cons, List.not_mem_nil, or_false] at hp; rcases hp with rfl <;> first | exact Con.ok _)
theorem rI0Y_raw (r6 p x i : Nat) (bb o q c : Nat) (N acc z c0 c1 c2 c3 c4 : Int) (M : Mem) (M3 : Mem) (M13 : Mem) : oR Tryz.prog [] 40 Tryz.f16 (q16.loopAt 2) [(1, (sli bb o q c)), (2, (i64 acc)), (6, (pt r6 0)), (7, (pt p 0)), (8, (i64 N)), (9, (i64 (((i : Nat) : Int)))), (10, (pt x 0)), (11, (i64 0))] M [ttT 23, ttT 31, ttL 33 (i64 z), ttV 37 (i64 (modI z N)) M3, ttS 41 M13] [1, 2, 6, 7, 8, 9, 10, 11] = some (.normal, [some (sli bb o q c), some (i64 acc), some (pt r6 0), some (pt p 0), some (i64 N), some (i64 (((i : Nat) : Int))), some (pt x 0), some (i64 1)], M13, [qT (decide ((IntKind.wrap .i64 ((IntKind.wrap .i64 ((5 : Int) * (((i : Nat) : Int)))) + (0 : Int))) < (((q : Nat) : Int)))), .q (.inb (IntKind.wrap .i64 ((IntKind.wrap .i64 ((5 : Int) * (((i : Nat) : Int)))) + (0 : Int))) q) (ansB true), qL 3 bb (o + (IntKind.wrap .i64 ((IntKind.wrap .i64 ((5 : Int) * (((i : Nat) : Int)))) + (0 : Int)) : Int).toNat * 1) M (i64 z), qC 40 [(i64 z), (i64 N)] M (i64 (modI z N)) M3, qS 3 x 0 (i64 (modI z N)) M3 M13]) := by kernel_rfl
theorem rI0Y (r6 p x i : Nat) (bb o q c : Nat) (N acc z c0 c1 c2 c3 c4 : Int) {M : Mem} (hM : MemOk M) {M0 : Mem} (X0 : Ext M0 M) (nx : M0.next ≤ x) (hN : 1 ≤ N ∧ N ≤ 9) (gx : M.get x = some ⟨[i64 c0, i64 c1, i64 c2, i64 c3, i64 c4], 62, 1, 0, true⟩) (hk0 : 0 ≤ IntKind.wrap .i64 ((IntKind.wrap .i64 ((5 : Int) * (((i : Nat) : Int)))) + (0 : Int))) (hld : aload Tryz.prog 3 ⟨bb, o + (IntKind.wrap .i64 ((IntKind.wrap .i64 ((5 : Int) * (((i : Nat) : Int)))) + (0 : Int))).toNat * 1, none⟩ M = some (i64 z)) (cc0 : (decide ((IntKind.wrap .i64 ((IntKind.wrap .i64 ((5 : Int) * (((i : Nat) : Int)))) + (0 : Int))) < (((q : Nat) : Int)))) = true) : ∃ T1 M', Rd Tryz.prog [] (q16.loopAt 2) Tryz.f16.ntmps (fr [(1, (sli bb o q c)), (2, (i64 acc)), (6, (pt r6 0)), (7, (pt p 0)), (8, (i64 N)), (9, (i64 (((i : Nat) : Int)))), (10, (pt x 0)), (11, (i64 0))]) M .normal T1 M' ∧ [1, 2, 6, 7, 8, 9, 10, 11].map T1.get = [some (sli bb o q c), some (i64 acc), some (pt r6 0), some (pt p 0), some (i64 N), some (i64 (((i : Nat) : Int))), some (pt x 0), some (i64 1)] ∧ Ext M0 M' ∧ MemOk M' ∧ M'.get x = some ⟨[(i64 (modI z N)), (i64 c1), (i64 c2), (i64 c3), (i64 c4)], 62, 1, 0, true⟩ ∧ ∀ id k, M.get id = some k → id ≠ x → M'.get id = some k := by
  obtain ⟨w1, N2, M3, p4, l5, e6, E7, hM8, Q9, G10⟩ := call_t (P := Tryz.prog) (GL := []) (f := 40) hM (con40 z N (by simp <;> omega))
  have g11 := E7.old gx
  have ew1 : w1 = (i64 (modI z N)) := (Option.some.inj Q9.1).symm
  subst ew1
  have nxM3 : M3.next = M.next := by rw [← e6]; exact Q9.2
  have X12 := X0.trans E7
  obtain ⟨M13, q16, g15, kp16, X17, hM18, nx19⟩ := store_t (o := 0) (v := (i64 (modI z N))) (new := [(i64 (modI z N)), (i64 c1), (i64 c2), (i64 c3), (i64 c4)]) X12 nx hM8 dS3 g11 rfl rfl (Nat.zero_le _) (Nat.le_of_ble_eq_true rfl) rfl
  replace g15 : M13.get x = some ⟨[(i64 (modI z N)), (i64 c1), (i64 c2), (i64 c3), (i64 c4)], 62, 1, 0, true⟩ := g15
  have hraw := rI0Y_raw r6 p x i bb o q c N acc z c0 c1 c2 c3 c4 M M3 M13
  have hkp : ∀ id k, M.get id = some k → id ≠ x → M13.get id = some k := fun id k g hx => by
    have g0 := g
    have g := E7.old g
    have g := ((fun id h _ => kp16 id h) id hx (Mem.lt_of_get g)).trans g
    exact g
  obtain ⟨T1, h1, h2⟩ := Rd.told noNumP mixedP (fun B => specsB_ok (k := []) (hS14_17 B) (fun p hp => by cases hp)) (fun _ _ => rfl) hraw (hk (bT cc0) (hk (q_inb hk0 (of_decide_eq_true cc0)) (hk (q_ld (hld)) (hk (q_call rfl p4 l5 e6) (hk (q_st q16) hn)))))
  exact ⟨T1, M13, h1, h2, X17, hM18, g15, hkp⟩
theorem rI0N_raw (r6 p x i : Nat) (a : Option Addr) (q c : Nat) (N acc z c0 c1 c2 c3 c4 : Int) (M : Mem) (M3 : Mem) (M13 : Mem) : oR Tryz.prog [] 40 Tryz.f16 (q16.loopAt 2) [(1, (.slice a q c)), (2, (i64 acc)), (6, (pt r6 0)), (7, (pt p 0)), (8, (i64 N)), (9, (i64 (((i : Nat) : Int)))), (10, (pt x 0)), (11, (i64 0))] M [ttT 20, ttF 23, ttV 39 (i64 (modI (IntKind.wrap .i64 ((((i : Nat) : Int)) + (IntKind.wrap .i64 ((0 : Int) * acc)))) N)) M3, ttS 43 M13] [1, 2, 6, 7, 8, 9, 10, 11] = some (.normal, [some (.slice a q c), some (i64 acc), some (pt r6 0), some (pt p 0), some (i64 N), some (i64 (((i : Nat) : Int))), some (pt x 0), some (i64 1)], M13, [.ln a q c, qF (decide ((IntKind.wrap .i64 ((IntKind.wrap .i64 ((5 : Int) * (((i : Nat) : Int)))) + (0 : Int))) < (((q : Nat) : Int)))), qC 40 [(i64 (IntKind.wrap .i64 ((((i : Nat) : Int)) + (IntKind.wrap .i64 ((0 : Int) * acc))))), (i64 N)] M (i64 (modI (IntKind.wrap .i64 ((((i : Nat) : Int)) + (IntKind.wrap .i64 ((0 : Int) * acc)))) N)) M3, qS 3 x 0 (i64 (modI (IntKind.wrap .i64 ((((i : Nat) : Int)) + (IntKind.wrap .i64 ((0 : Int) * acc)))) N)) M3 M13]) := by kernel_rfl
theorem rI0N (r6 p x i : Nat) (a : Option Addr) (q c : Nat) (N acc z c0 c1 c2 c3 c4 : Int) {M : Mem} (hM : MemOk M) {M0 : Mem} (X0 : Ext M0 M) (nx : M0.next ≤ x) (hN : 1 ≤ N ∧ N ≤ 9) (gx : M.get x = some ⟨[i64 c0, i64 c1, i64 c2, i64 c3, i64 c4], 62, 1, 0, true⟩) (hln : a.isNone = true → q = 0 ∧ c = 0) (cc0 : (decide ((IntKind.wrap .i64 ((IntKind.wrap .i64 ((5 : Int) * (((i : Nat) : Int)))) + (0 : Int))) < (((q : Nat) : Int)))) = false) : ∃ T1 M', Rd Tryz.prog [] (q16.loopAt 2) Tryz.f16.ntmps (fr [(1, (.slice a q c)), (2, (i64 acc)), (6, (pt r6 0)), (7, (pt p 0)), (8, (i64 N)), (9, (i64 (((i : Nat) : Int)))), (10, (pt x 0)), (11, (i64 0))]) M .normal T1 M' ∧ [1, 2, 6, 7, 8, 9, 10, 11].map T1.get = [some (.slice a q c), some (i64 acc), some (pt r6 0), some (pt p 0), some (i64 N), some (i64 (((i : Nat) : Int))), some (pt x 0), some (i64 1)] ∧ Ext M0 M' ∧ MemOk M' ∧ M'.get x = some ⟨[(i64 (modI (IntKind.wrap .i64 ((((i : Nat) : Int)) + (IntKind.wrap .i64 ((0 : Int) * acc)))) N)), (i64 c1), (i64 c2), (i64 c3), (i64 c4)], 62, 1, 0, true⟩ ∧ ∀ id k, M.get id = some k → id ≠ x → M'.get id = some k := by
  obtain ⟨w1, N2, M3, p4, l5, e6, E7, hM8, Q9, G10⟩ := call_t (P := Tryz.prog) (GL := []) (f := 40) hM (con40 (IntKind.wrap .i64 ((((i : Nat) : Int)) + (IntKind.wrap .i64 ((0 : Int) * acc)))) N (by simp <;> omega))
  have g11 := E7.old gx
  have ew1 : w1 = (i64 (modI (IntKind.wrap .i64 ((((i : Nat) : Int)) + (IntKind.wrap .i64 ((0 : Int) * acc)))) N)) := (Option.some.inj Q9.1).symm
  subst ew1
  have nxM3 : M3.next = M.next := by rw [← e6]; exact Q9.2
  have X12 := X0.trans E7
  obtain ⟨M13, q16, g15, kp16, X17, hM18, nx19⟩ := store_t (o := 0) (v := (i64 (modI (IntKind.wrap .i64 ((((i : Nat) : Int)) + (IntKind.wrap .i64 ((0 : Int) * acc)))) N))) (new := [(i64 (modI (IntKind.wrap .i64 ((((i : Nat) : Int)) + (IntKind.wrap .i64 ((0 : Int) * acc)))) N)), (i64 c1), (i64 c2), (i64 c3), (i64 c4)]) X12 nx hM8 dS3 g11 rfl rfl (Nat.zero_le _) (Nat.le_of_ble_eq_true rfl) rfl
  replace g15 : M13.get x = some ⟨[(i64 (modI (IntKind.wrap .i64 ((((i : Nat) : Int)) + (IntKind.wrap .i64 ((0 : Int) * acc)))) N)), (i64 c1), (i64 c2), (i64 c3), (i64 c4)], 62, 1, 0, true⟩ := g15
  have hraw := rI0N_raw r6 p x i a q c N acc z c0 c1 c2 c3 c4 M M3 M13
  have hkp : ∀ id k, M.get id = some k → id ≠ x → M13.get id = some k := fun id k g hx => by
    have g0 := g
    have g := E7.old g
    have g := ((fun id h _ => kp16 id h) id hx (Mem.lt_of_get g)).trans g
    exact g
  obtain ⟨T1, h1, h2⟩ := Rd.told noNumP mixedP (fun B => specsB_ok (k := []) (hS14_17 B) (fun p hp => by cases hp)) (fun _ _ => rfl) hraw (hk (lN hln) (hk (bF cc0) (hk (q_call rfl p4 l5 e6) (hk (q_st q16) hn))))
  exact ⟨T1, M13, h1, h2, X17, hM18, g15, hkp⟩
theorem rI1Y_raw (r6 p x i : Nat) (bb o q c : Nat) (N acc z c0 c1 c2 c3 c4 : Int) (M : Mem) (M3 : Mem) (M13 : Mem) : oR Tryz.prog [] 40 Tryz.f16 (q16.loopAt 2) [(1, (sli bb o q c)), (2, (i64 acc)), (6, (pt r6 0)), (7, (pt p 0)), (8, (i64 N)), (9, (i64 (((i : Nat) : Int)))), (10, (pt x 0)), (11, (i64 1))] M [ttT 23, ttT 31, ttL 33 (i64 z), ttV 37 (i64 (modI z N)) M3, ttS 41 M13] [1, 2, 6, 7, 8, 9, 10, 11] = some (.normal, [some (sli bb o q c), some (i64 acc), some (pt r6 0), some (pt p 0), some (i64 N), some (i64 (((i : Nat) : Int))), some (pt x 0), some (i64 2)], M13, [qT (decide ((IntKind.wrap .i64 ((IntKind.wrap .i64 ((5 : Int) * (((i : Nat) : Int)))) + (1 : Int))) < (((q : Nat) : Int)))), .q (.inb (IntKind.wrap .i64 ((IntKind.wrap .i64 ((5 : Int) * (((i : Nat) : Int)))) + (1 : Int))) q) (ansB true), qL 3 bb (o + (IntKind.wrap .i64 ((IntKind.wrap .i64 ((5 : Int) * (((i : Nat) : Int)))) + (1 : Int)) : Int).toNat * 1) M (i64 z), qC 40 [(i64 z), (i64 N)] M (i64 (modI z N)) M3, qS 3 x 1 (i64 (modI z N)) M3 M13]) := by kernel_rfl
theorem rI1Y (r6 p x i : Nat) (bb o q c : Nat) (N acc z c0 c1 c2 c3 c4 : Int) {M : Mem} (hM : MemOk M) {M0 : Mem} (X0 : Ext M0 M) (nx : M0.next ≤ x) (hN : 1 ≤ N ∧ N ≤ 9) (gx : M.get x = some ⟨[i64 c0, i64 c1, i64 c2, i64 c3, i64 c4], 62, 1, 0, true⟩) (hk0 : 0 ≤ IntKind.wrap .i64 ((IntKind.wrap .i64 ((5 : Int) * (((i : Nat) : Int)))) + (1 : Int))) (hld : aload Tryz.prog 3 ⟨bb, o + (IntKind.wrap .i64 ((IntKind.wrap .i64 ((5 : Int) * (((i : Nat) : Int)))) + (1 : Int))).toNat * 1, none⟩ M = some (i64 z)) (cc0 : (decide ((IntKind.wrap .i64 ((IntKind.wrap .i64 ((5 : Int) * (((i : Nat) : Int)))) + (1 : Int))) < (((q : Nat) : Int)))) = true) : ∃ T1 M', Rd Tryz.prog [] (q16.loopAt 2) Tryz.f16.ntmps (fr [(1, (sli bb o q c)), (2, (i64 acc)), (6, (pt r6 0)), (7, (pt p 0)), (8, (i64 N)), (9, (i64 (((i : Nat) : Int)))), (10, (pt x 0)), (11, (i64 1))]) M .normal T1 M' ∧ [1, 2, 6, 7, 8, 9, 10, 11].map T1.get = [some (sli bb o q c), some (i64 acc), some (pt r6 0), some (pt p 0), some (i64 N), some (i64 (((i : Nat) : Int))), some (pt x 0), some (i64 2)] ∧ Ext M0 M' ∧ MemOk M' ∧ M'.get x = some ⟨[(i64 c0), (i64 (modI z N)), (i64 c2), (i64 c3), (i64 c4)], 62, 1, 0, true⟩ ∧ ∀ id k, M.get id = some k → id ≠ x → M'.get id = some k := by
  obtain ⟨w1, N2, M3, p4, l5, e6, E7, hM8, Q9, G10⟩ := call_t (P := Tryz.prog) (GL := []) (f := 40) hM (con40 z N (by simp <;> omega))
  have g11 := E7.old gx
  have ew1 : w1 = (i64 (modI z N)) := (Option.some.inj Q9.1).symm
  subst ew1
  have nxM3 : M3.next = M.next := by rw [← e6]; exact Q9.2
  have X12 := X0.trans E7
  obtain ⟨M13, q16, g15, kp16, X17, hM18, nx19⟩ := store_t (o := 1) (v := (i64 (modI z N))) (new := [(i64 c0), (i64 (modI z N)), (i64 c2), (i64 c3), (i64 c4)]) X12 nx hM8 dS3 g11 rfl rfl (Nat.zero_le _) (Nat.le_of_ble_eq_true rfl) rfl
  replace g15 : M13.get x = some ⟨[(i64 c0), (i64 (modI z N)), (i64 c2), (i64 c3), (i64 c4)], 62, 1, 0, true⟩ := g15
  have hraw := rI1Y_raw r6 p x i bb o q c N acc z c0 c1 c2 c3 c4 M M3 M13
  have hkp : ∀ id k, M.get id = some k → id ≠ x → M13.get id = some k := fun id k g hx => by
    have g0 := g
    have g := E7.old g
    have g := ((fun id h _ => kp16 id h) id hx (Mem.lt_of_get g)).trans g
    exact g
  obtain ⟨T1, h1, h2⟩ := Rd.told noNumP mixedP (fun B => specsB_ok (k := []) (hS14_17 B) (fun p hp => by cases hp)) (fun _ _ => rfl) hraw (hk (bT cc0) (hk (q_inb hk0 (of_decide_eq_true cc0)) (hk (q_ld (hld)) (hk (q_call rfl p4 l5 e6) (hk (q_st q16) hn)))))
  exact ⟨T1, M13, h1, h2, X17, hM18, g15, hkp⟩
theorem rI1N_raw (r6 p x i : Nat) (a : Option Addr) (q c : Nat) (N acc z c0 c1 c2 c3 c4 : Int) (M : Mem) (M3 : Mem) (M13 : Mem) : oR Tryz.prog [] 40 Tryz.f16 (q16.loopAt 2) [(1, (.slice a q c)), (2, (i64 acc)), (6, (pt r6 0)), (7, (pt p 0)), (8, (i64 N)), (9, (i64 (((i : Nat) : Int)))), (10, (pt x 0)), (11, (i64 1))] M [ttT 20, ttF 23, ttV 39 (i64 (modI (IntKind.wrap .i64 ((((i : Nat) : Int)) + (IntKind.wrap .i64 ((1 : Int) * acc)))) N)) M3, ttS 43 M13] [1, 2, 6, 7, 8, 9, 10, 11] = some (.normal, [some (.slice a q c), some (i64 acc), some (pt r6 0), some (pt p 0), some (i64 N), some (i64 (((i : Nat) : Int))), some (pt x 0), some (i64 2)], M13, [.ln a q c, qF (decide ((IntKind.wrap .i64 ((IntKind.wrap .i64 ((5 : Int) * (((i : Nat) : Int)))) + (1 : Int))) < (((q : Nat) : Int)))), qC 40 [(i64 (IntKind.wrap .i64 ((((i : Nat) : Int)) + (IntKind.wrap .i64 ((1 : Int) * acc))))), (i64 N)] M (i64 (modI (IntKind.wrap .i64 ((((i : Nat) : Int)) + (IntKind.wrap .i64 ((1 : Int) * acc)))) N)) M3, qS 3 x 1 (i64 (modI (IntKind.wrap .i64 ((((i : Nat) : Int)) + (IntKind.wrap .i64 ((1 : Int) * acc)))) N)) M3 M13]) := by kernel_rfl
theorem rI1N (r6 p x i : Nat) (a : Option Addr) (q c : Nat) (N acc z c0 c1 c2 c3 c4 : Int) {M : Mem} (hM : MemOk M) {M0 : Mem} (X0 : Ext M0 M) (nx : M0.next ≤ x) (hN : 1 ≤ N ∧ N ≤ 9) (gx : M.get x = some ⟨[i64 c0, i64 c1, i64 c2, i64 c3, i64 c4], 62, 1, 0, true⟩) (hln : a.isNone = true → q = 0 ∧ c = 0) (cc0 : (decide ((IntKind.wrap .i64 ((IntKind.wrap .i64 ((5 : Int) * (((i : Nat) : Int)))) + (1 : Int))) < (((q : Nat) : Int)))) = false) : ∃ T1 M', Rd Tryz.prog [] (q16.loopAt 2) Tryz.f16.ntmps (fr [(1, (.slice a q c)), (2, (i64 acc)), (6, (pt r6 0)), (7, (pt p 0)), (8, (i64 N)), (9, (i64 (((i : Nat) : Int)))), (10, (pt x 0)), (11, (i64 1))]) M .normal T1 M' ∧ [1, 2, 6, 7, 8, 9, 10, 11].map T1.get = [some (.slice a q c), some (i64 acc), some (pt r6 0), some (pt p 0), some (i64 N), some (i64 (((i : Nat) : Int))), some (pt x 0), some (i64 2)] ∧ Ext M0 M' ∧ MemOk M' ∧ M'.get x = some ⟨[(i64 c0), (i64 (modI (IntKind.wrap .i64 ((((i : Nat) : Int)) + (IntKind.wrap .i64 ((1 : Int) * acc)))) N)), (i64 c2), (i64 c3), (i64 c4)], 62, 1, 0, true⟩ ∧ ∀ id k, M.get id = some k → id ≠ x → M'.get id = some k := by
  obtain ⟨w1, N2, M3, p4, l5, e6, E7, hM8, Q9, G10⟩ := call_t (P := Tryz.prog) (GL := []) (f := 40) hM (con40 (IntKind.wrap .i64 ((((i : Nat) : Int)) + (IntKind.wrap .i64 ((1 : Int) * acc)))) N (by simp <;> omega))
  have g11 := E7.old gx
  have ew1 : w1 = (i64 (modI (IntKind.wrap .i64 ((((i : Nat) : Int)) + (IntKind.wrap .i64 ((1 : Int) * acc)))) N)) := (Option.some.inj Q9.1).symm
  subst ew1
  have nxM3 : M3.next = M.next := by rw [← e6]; exact Q9.2
  have X12 := X0.trans E7
  obtain ⟨M13, q16, g15, kp16, X17, hM18, nx19⟩ := store_t (o := 1) (v := (i64 (modI (IntKind.wrap .i64 ((((i : Nat) : Int)) + (IntKind.wrap .i64 ((1 : Int) * acc)))) N))) (new := [(i64 c0), (i64 (modI (IntKind.wrap .i64 ((((i : Nat) : Int)) + (IntKind.wrap .i64 ((1 : Int) * acc)))) N)), (i64 c2), (i64 c3), (i64 c4)]) X12 nx hM8 dS3 g11 rfl rfl (Nat.zero_le _) (Nat.le_of_ble_eq_true rfl) rfl
  replace g15 : M13.get x = some ⟨[(i64 c0), (i64 (modI (IntKind.wrap .i64 ((((i : Nat) : Int)) + (IntKind.wrap .i64 ((1 : Int) * acc)))) N)), (i64 c2), (i64 c3), (i64 c4)], 62, 1, 0, true⟩ := g15
  have hraw := rI1N_raw r6 p x i a q c N acc z c0 c1 c2 c3 c4 M M3 M13
  have hkp : ∀ id k, M.get id = some k → id ≠ x → M13.get id = some k := fun id k g hx => by
    have g0 := g
    have g := E7.old g
    have g := ((fun id h _ => kp16 id h) id hx (Mem.lt_of_get g)).trans g
    exact g
  obtain ⟨T1, h1, h2⟩ := Rd.told noNumP mixedP (fun B => specsB_ok (k := []) (hS14_17 B) (fun p hp => by cases hp)) (fun _ _ => rfl) hraw (hk (lN hln) (hk (bF cc0) (hk (q_call rfl p4 l5 e6) (hk (q_st q16) hn))))
  exact ⟨T1, M13, h1, h2, X17, hM18, g15, hkp⟩
theorem rI2Y_raw (r6 p x i : Nat) (bb o q c : Nat) (N acc z c0 c1 c2 c3 c4 : Int) (M : Mem) (M3 : Mem) (M13 : Mem) : oR Tryz.prog [] 40 Tryz.f16 (q16.loopAt 2) [(1, (sli bb o q c)), (2, (i64 acc)), (6, (pt r6 0)), (7, (pt p 0)), (8, (i64 N)), (9, (i64 (((i : Nat) : Int)))), (10, (pt x 0)), (11, (i64 2))] M [ttT 23, ttT 31, ttL 33 (i64 z), ttV 37 (i64 (modI z N)) M3, ttS 41 M13] [1, 2, 6, 7, 8, 9, 10, 11] = some (.normal, [some (sli bb o q c), some (i64 acc), some (pt r6 0), some (pt p 0), some (i64 N), some (i64 (((i : Nat) : Int))), some (pt x 0), some (i64 3)], M13, [qT (decide ((IntKind.wrap .i64 ((IntKind.wrap .i64 ((5 : Int) * (((i : Nat) : Int)))) + (2 : Int))) < (((q : Nat) : Int)))), .q (.inb (IntKind.wrap .i64 ((IntKind.wrap .i64 ((5 : Int) * (((i : Nat) : Int)))) + (2 : Int))) q) (ansB true), qL 3 bb (o + (IntKind.wrap .i64 ((IntKind.wrap .i64 ((5 : Int) * (((i : Nat) : Int)))) + (2 : Int)) : Int).toNat * 1) M (i64 z), qC 40 [(i64 z), (i64 N)] M (i64 (modI z N)) M3, qS 3 x 2 (i64 (modI z N)) M3 M13]) := by kernel_rfl
theorem rI2Y (r6 p x i : Nat) (bb o q c : Nat) (N acc z c0 c1 c2 c3 c4 : Int) {M : Mem} (hM : MemOk M) {M0 : Mem} (X0 : Ext M0 M) (nx : M0.next ≤ x) (hN : 1 ≤ N ∧ N ≤ 9) (gx : M.get x = some ⟨[i64 c0, i64 c1, i64 c2, i64 c3, i64 c4], 62, 1, 0, true⟩) (hk0 : 0 ≤ IntKind.wrap .i64 ((IntKind.wrap .i64 ((5 : Int) * (((i : Nat) : Int)))) + (2 : Int))) (hld : aload Tryz.prog 3 ⟨bb, o + (IntKind.wrap .i64 ((IntKind.wrap .i64 ((5 : Int) * (((i : Nat) : Int)))) + (2 : Int))).toNat * 1, none⟩ M = some (i64 z)) (cc0 : (decide ((IntKind.wrap .i64 ((IntKind.wrap .i64 ((5 : Int) * (((i : Nat) : Int)))) + (2 : Int))) < (((q : Nat) : Int)))) = true) : ∃ T1 M', Rd Tryz.prog [] (q16.loopAt 2) Tryz.f16.ntmps (fr [(1, (sli bb o q c)), (2, (i64 acc)), (6, (pt r6 0)), (7, (pt p 0)), (8, (i64 N)), (9, (i64 (((i : Nat) : Int)))), (10, (pt x 0)), (11, (i64 2))]) M .normal T1 M' ∧ [1, 2, 6, 7, 8, 9, 10, 11].map T1.get = [some (sli bb o q c), some (i64 acc), some (pt r6 0), some (pt p 0), some (i64 N), some (i64 (((i : Nat) : Int))), some (pt x 0), some (i64 3)] ∧ Ext M0 M' ∧ MemOk M' ∧ M'.get x = some ⟨[(i64 c0), (i64 c1), (i64 (modI z N)), (i64 c3), (i64 c4)], 62, 1, 0, true⟩ ∧ ∀ id k, M.get id = some k → id ≠ x → M'.get id = some k := by
  obtain ⟨w1, N2, M3, p4, l5, e6, E7, hM8, Q9, G10⟩ := call_t (P := Tryz.prog) (GL := []) (f := 40) hM (con40 z N (by simp <;> omega))
  have g11 := E7.old gx
  have ew1 : w1 = (i64 (modI z N)) := (Option.some.inj Q9.1).symm
  subst ew1
  have nxM3 : M3.next = M.next := by rw [← e6]; exact Q9.2
  have X12 := X0.trans E7
  obtain ⟨M13, q16, g15, kp16, X17, hM18, nx19⟩ := store_t (o := 2) (v := (i64 (modI z N))) (new := [(i64 c0), (i64 c1), (i64 (modI z N)), (i64 c3), (i64 c4)]) X12 nx hM8 dS3 g11 rfl rfl (Nat.zero_le _) (Nat.le_of_ble_eq_true rfl) rfl
  replace g15 : M13.get x = some ⟨[(i64 c0), (i64 c1), (i64 (modI z N)), (i64 c3), (i64 c4)], 62, 1, 0, true⟩ := g15
  have hraw := rI2Y_raw r6 p x i bb o q c N acc z c0 c1 c2 c3 c4 M M3 M13
  have hkp : ∀ id k, M.get id = some k → id ≠ x → M13.get id = some k := fun id k g hx => by
    have g0 := g
    have g := E7.old g
    have g := ((fun id h _ => kp16 id h) id hx (Mem.lt_of_get g)).trans g
    exact g
  obtain ⟨T1, h1, h2⟩ := Rd.told noNumP mixedP (fun B => specsB_ok (k := []) (hS14_17 B) (fun p hp => by cases hp)) (fun _ _ => rfl) hraw (hk (bT cc0) (hk (q_inb hk0 (of_decide_eq_true cc0)) (hk (q_ld (hld)) (hk (q_call rfl p4 l5 e6) (hk (q_st q16) hn)))))
  exact ⟨T1, M13, h1, h2, X17, hM18, g15, hkp⟩
theorem rI2N_raw (r6 p x i : Nat) (a : Option Addr) (q c : Nat) (N acc z c0 c1 c2 c3 c4 : Int) (M : Mem) (M3 : Mem) (M13 : Mem) : oR Tryz.prog [] 40 Tryz.f16 (q16.loopAt 2) [(1, (.slice a q c)), (2, (i64 acc)), (6, (pt r6 0)), (7, (pt p 0)), (8, (i64 N)), (9, (i64 (((i : Nat) : Int)))), (10, (pt x 0)), (11, (i64 2))] M [ttT 20, ttF 23, ttV 39 (i64 (modI (IntKind.wrap .i64 ((((i : Nat) : Int)) + (IntKind.wrap .i64 ((2 : Int) * acc)))) N)) M3, ttS 43 M13] [1, 2, 6, 7, 8, 9, 10, 11] = some (.normal, [some (.slice a q c), some (i64 acc), some (pt r6 0), some (pt p 0), some (i64 N), some (i64 (((i : Nat) : Int))), some (pt x 0), some (i64 3)], M13, [.ln a q c, qF (decide ((IntKind.wrap .i64 ((IntKind.wrap .i64 ((5 : Int) * (((i : Nat) : Int)))) + (2 : Int))) < (((q : Nat) : Int)))), qC 40 [(i64 (IntKind.wrap .i64 ((((i : Nat) : Int)) + (IntKind.wrap .i64 ((2 : Int) * acc))))), (i64 N)] M (i64 (modI (IntKind.wrap .i64 ((((i : Nat) : Int)) + (IntKind.wrap .i64 ((2 : Int) * acc)))) N)) M3, qS 3 x 2 (i64 (modI (IntKind.wrap .i64 ((((i : Nat) : Int)) + (IntKind.wrap .i64 ((2 : Int) * acc)))) N)) M3 M13]) := by kernel_rfl
theorem rI2N (r6 p x i : Nat) (a : Option Addr) (q c : Nat) (N acc z c0 c1 c2 c3 c4 : Int) {M : Mem} (hM : MemOk M) {M0 : Mem} (X0 : Ext M0 M) (nx : M0.next ≤ x) (hN : 1 ≤ N ∧ N ≤ 9) (gx : M.get x = some ⟨[i64 c0, i64 c1, i64 c2, i64 c3, i64 c4], 62, 1, 0, true⟩) (hln : a.isNone = true → q = 0 ∧ c = 0) (cc0 : (decide ((IntKind.wrap .i64 ((IntKind.wrap .i64 ((5 : Int) * (((i : Nat) : Int)))) + (2 : Int))) < (((q : Nat) : Int)))) = false) : ∃ T1 M', Rd Tryz.prog [] (q16.loopAt 2) Tryz.f16.ntmps (fr [(1, (.slice a q c)), (2, (i64 acc)), (6, (pt r6 0)), (7, (pt p 0)), (8, (i64 N)), (9, (i64 (((i : Nat) : Int)))), (10, (pt x 0)), (11, (i64 2))]) M .normal T1 M' ∧ [1, 2, 6, 7, 8, 9, 10, 11].map T1.get = [some (.slice a q c), some (i64 acc), some (pt r6 0), some (pt p 0), some (i64 N), some (i64 (((i : Nat) : Int))), some (pt x 0), some (i64 3)] ∧ Ext M0 M' ∧ MemOk M' ∧ M'.get x = some ⟨[(i64 c0), (i64 c1), (i64 (modI (IntKind.wrap .i64 ((((i : Nat) : Int)) + (IntKind.wrap .i64 ((2 : Int) * acc)))) N)), (i64 c3), (i64 c4)], 62, 1, 0, true⟩ ∧ ∀ id k, M.get id = some k → id ≠ x → M'.get id = some k := by
  obtain ⟨w1, N2, M3, p4, l5, e6, E7, hM8, Q9, G10⟩ := call_t (P := Tryz.prog) (GL := []) (f := 40) hM (con40 (IntKind.wrap .i64 ((((i : Nat) : Int)) + (IntKind.wrap .i64 ((2 : Int) * acc)))) N (by simp <;> omega))
  have g11 := E7.old gx
  have ew1 : w1 = (i64 (modI (IntKind.wrap .i64 ((((i : Nat) : Int)) + (IntKind.wrap .i64 ((2 : Int) * acc)))) N)) := (Option.some.inj Q9.1).symm
  subst ew1
  have nxM3 : M3.next = M.next := by rw [← e6]; exact Q9.2
  have X12 := X0.trans E7
  obtain ⟨M13, q16, g15, kp16, X17, hM18, nx19⟩ := store_t (o := 2) (v := (i64 (modI (IntKind.wrap .i64 ((((i : Nat) : Int)) + (IntKind.wrap .i64 ((2 : Int) * acc)))) N))) (new := [(i64 c0), (i64 c1), (i64 (modI (IntKind.wrap .i64 ((((i : Nat) : Int)) + (IntKind.wrap .i64 ((2 : Int) * acc)))) N)), (i64 c3), (i64 c4)]) X12 nx hM8 dS3 g11 rfl rfl (Nat.zero_le _) (Nat.le_of_ble_eq_true rfl) rfl
  replace g15 : M13.get x = some ⟨[(i64 c0), (i64 c1), (i64 (modI (IntKind.wrap .i64 ((((i : Nat) : Int)) + (IntKind.wrap .i64 ((2 : Int) * acc)))) N)), (i64 c3), (i64 c4)], 62, 1, 0, true⟩ := g15
  have hraw := rI2N_raw r6 p x i a q c N acc z c0 c1 c2 c3 c4 M M3 M13
  have hkp : ∀ id k, M.get id = some k → id ≠ x → M13.get id = some k := fun id k g hx => by
    have g0 := g
    have g := E7.old g
    have g := ((fun id h _ => kp16 id h) id hx (Mem.lt_of_get g)).trans g
    exact g
  obtain ⟨T1, h1, h2⟩ := Rd.told noNumP mixedP (fun B => specsB_ok (k := []) (hS14_17 B) (fun p hp => by cases hp)) (fun _ _ => rfl) hraw (hk (lN hln) (hk (bF cc0) (hk (q_call rfl p4 l5 e6) (hk (q_st q16) hn))))
  exact ⟨T1, M13, h1, h2, X17, hM18, g15, hkp⟩
theorem rI3Y_raw (r6 p x i : Nat) (bb o q c : Nat) (N acc z c0 c1 c2 c3 c4 : Int) (M : Mem) (M3 : Mem) (M13 : Mem) : oR Tryz.prog [] 40 Tryz.f16 (q16.loopAt 2) [(1, (sli bb o q c)), (2, (i64 acc)), (6, (pt r6 0)), (7, (pt p 0)), (8, (i64 N)), (9, (i64 (((i : Nat) : Int)))), (10, (pt x 0)), (11, (i64 3))] M [ttT 23, ttT 31, ttL 33 (i64 z), ttV 37 (i64 (modI z N)) M3, ttS 41 M13] [1, 2, 6, 7, 8, 9, 10, 11] = some (.normal, [some (sli bb o q c), some (i64 acc), some (pt r6 0), some (pt p 0), some (i64 N), some (i64 (((i : Nat) : Int))), some (pt x 0), some (i64 4)], M13, [qT (decide ((IntKind.wrap .i64 ((IntKind.wrap .i64 ((5 : Int) * (((i : Nat) : Int)))) + (3 : Int))) < (((q : Nat) : Int)))), .q (.inb (IntKind.wrap .i64 ((IntKind.wrap .i64 ((5 : Int) * (((i : Nat) : Int)))) + (3 : Int))) q) (ansB true), qL 3 bb (o + (IntKind.wrap .i64 ((IntKind.wrap .i64 ((5 : Int) * (((i : Nat) : Int)))) + (3 : Int)) : Int).toNat * 1) M (i64 z), qC 40 [(i64 z), (i64 N)] M (i64 (modI z N)) M3, qS 3 x 3 (i64 (modI z N)) M3 M13]) := by kernel_rfl
theorem rI3Y (r6 p x i : Nat) (bb o q c : Nat) (N acc z c0 c1 c2 c3 c4 : Int) {M : Mem} (hM : MemOk M) {M0 : Mem} (X0 : Ext M0 M) (nx : M0.next ≤ x) (hN : 1 ≤ N ∧ N ≤ 9) (gx : M.get x = some ⟨[i64 c0, i64 c1, i64 c2, i64 c3, i64 c4], 62, 1, 0, true⟩) (hk0 : 0 ≤ IntKind.wrap .i64 ((IntKind.wrap .i64 ((5 : Int) * (((i : Nat) : Int)))) + (3 : Int))) (hld : aload Tryz.prog 3 ⟨bb, o + (IntKind.wrap .i64 ((IntKind.wrap .i64 ((5 : Int) * (((i : Nat) : Int)))) + (3 : Int))).toNat * 1, none⟩ M = some (i64 z)) (cc0 : (decide ((IntKind.wrap .i64 ((IntKind.wrap .i64 ((5 : Int) * (((i : Nat) : Int)))) + (3 : Int))) < (((q : Nat) : Int)))) = true) : ∃ T1 M', Rd Tryz.prog [] (q16.loopAt 2) Tryz.f16.ntmps (fr [(1, (sli bb o q c)), (2, (i64 acc)), (6, (pt r6 0)), (7, (pt p 0)), (8, (i64 N)), (9, (i64 (((i : Nat) : Int)))), (10, (pt x 0)), (11, (i64 3))]) M .normal T1 M' ∧ [1, 2, 6, 7, 8, 9, 10, 11].map T1.get = [some (sli bb o q c), some (i64 acc), some (pt r6 0), some (pt p 0), some (i64 N), some (i64 (((i : Nat) : Int))), some (pt x 0), some (i64 4)] ∧ Ext M0 M' ∧ MemOk M' ∧ M'.get x = some ⟨[(i64 c0), (i64 c1), (i64 c2), (i64 (modI z N)), (i64 c4)], 62, 1, 0, true⟩ ∧ ∀ id k, M.get id = some k → id ≠ x → M'.get id = some k := by
  obtain ⟨w1, N2, M3, p4, l5, e6, E7, hM8, Q9, G10⟩ := call_t (P := Tryz.prog) (GL := []) (f := 40) hM (con40 z N (by simp <;> omega))
  have g11 := E7.old gx
  have ew1 : w1 = (i64 (modI z N)) := (Option.some.inj Q9.1).symm
  subst ew1
  have nxM3 : M3.next = M.next := by rw [← e6]; exact Q9.2
  have X12 := X0.trans E7
  obtain ⟨M13, q16, g15, kp16, X17, hM18, nx19⟩ := store_t (o := 3) (v := (i64 (modI z N))) (new := [(i64 c0), (i64 c1), (i64 c2), (i64 (modI z N)), (i64 c4)]) X12 nx hM8 dS3 g11 rfl rfl (Nat.zero_le _) (Nat.le_of_ble_eq_true rfl) rfl
  replace g15 : M13.get x = some ⟨[(i64 c0), (i64 c1), (i64 c2), (i64 (modI z N)), (i64 c4)], 62, 1, 0, true⟩ := g15
  have hraw := rI3Y_raw r6 p x i bb o q c N acc z c0 c1 c2 c3 c4 M M3 M13
  have hkp : ∀ id k, M.get id = some k → id ≠ x → M13.get id = some k := fun id k g hx => by
    have g0 := g
    have g := E7.old g
    have g := ((fun id h _ => kp16 id h) id hx (Mem.lt_of_get g)).trans g
    exact g
  obtain ⟨T1, h1, h2⟩ := Rd.told noNumP mixedP (fun B => specsB_ok (k := []) (hS14_17 B) (fun p hp => by cases hp)) (fun _ _ => rfl) hraw (hk (bT cc0) (hk (q_inb hk0 (of_decide_eq_true cc0)) (hk (q_ld (hld)) (hk (q_call rfl p4 l5 e6) (hk (q_st q16) hn)))))
  exact ⟨T1, M13, h1, h2, X17, hM18, g15, hkp⟩
theorem rI3N_raw (r6 p x i : Nat) (a : Option Addr) (q c : Nat) (N acc z c0 c1 c2 c3 c4 : Int) (M : Mem) (M3 : Mem) (M13 : Mem) : oR Tryz.prog [] 40 Tryz.f16 (q16.loopAt 2) [(1, (.slice a q c)), (2, (i64 acc)), (6, (pt r6 0)), (7, (pt p 0)), (8, (i64 N)), (9, (i64 (((i : Nat) : Int)))), (10, (pt x 0)), (11, (i64 3))] M [ttT 20, ttF 23, ttV 39 (i64 (modI (IntKind.wrap .i64 ((((i : Nat) : Int)) + (IntKind.wrap .i64 ((3 : Int) * acc)))) N)) M3, ttS 43 M13] [1, 2, 6, 7, 8, 9, 10, 11] = some (.normal, [some (.slice a q c), some (i64 acc), some (pt r6 0), some (pt p 0), some (i64 N), some (i64 (((i : Nat) : Int))), some (pt x 0), some (i64 4)], M13, [.ln a q c, qF (decide ((IntKind.wrap .i64 ((IntKind.wrap .i64 ((5 : Int) * (((i : Nat) : Int)))) + (3 : Int))) < (((q : Nat) : Int)))), qC 40 [(i64 (IntKind.wrap .i64 ((((i : Nat) : Int)) + (IntKind.wrap .i64 ((3 : Int) * acc))))), (i64 N)] M (i64 (modI (IntKind.wrap .i64 ((((i : Nat) : Int)) + (IntKind.wrap .i64 ((3 : Int) * acc)))) N)) M3, qS 3 x 3 (i64 (modI (IntKind.wrap .i64 ((((i : Nat) : Int)) + (IntKind.wrap .i64 ((3 : Int) * acc)))) N)) M3 M13]) := by kernel_rfl
theorem rI3N (r6 p x i : Nat) (a : Option Addr) (q c : Nat) (N acc z c0 c1 c2 c3 c4 : Int) {M : Mem} (hM : MemOk M) {M0 : Mem} (X0 : Ext M0 M) (nx : M0.next ≤ x) (hN : 1 ≤ N ∧ N ≤ 9) (gx : M.get x = some ⟨[i64 c0, i64 c1, i64 c2, i64 c3, i64 c4], 62, 1, 0, true⟩) (hln : a.isNone = true → q = 0 ∧ c = 0) (cc0 : (decide ((IntKind.wrap .i64 ((IntKind.wrap .i64 ((5 : Int) * (((i : Nat) : Int)))) + (3 : Int))) < (((q : Nat) : Int)))) = false) : ∃ T1 M', Rd Tryz.prog [] (q16.loopAt 2) Tryz.f16.ntmps (fr [(1, (.slice a q c)), (2, (i64 acc)), (6, (pt r6 0)), (7, (pt p 0)), (8, (i64 N)), (9, (i64 (((i : Nat) : Int)))), (10, (pt x 0)), (11, (i64 3))]) M .normal T1 M' ∧ [1, 2, 6, 7, 8, 9, 10, 11].map T1.get = [some (.slice a q c), some (i64 acc), some (pt r6 0), some (pt p 0), some (i64 N), some (i64 (((i : Nat) : Int))), some (pt x 0), some (i64 4)] ∧ Ext M0 M' ∧ MemOk M' ∧ M'.get x = some ⟨[(i64 c0), (i64 c1), (i64 c2), (i64 (modI (IntKind.wrap .i64 ((((i : Nat) : Int)) + (IntKind.wrap .i64 ((3 : Int) * acc)))) N)), (i64 c4)], 62, 1, 0, true⟩ ∧ ∀ id k, M.get id = some k → id ≠ x → M'.get id = some k := by
  obtain ⟨w1, N2, M3, p4, l5, e6, E7, hM8, Q9, G10⟩ := call_t (P := Tryz.prog) (GL := []) (f := 40) hM (con40 (IntKind.wrap .i64 ((((i : Nat) : Int)) + (IntKind.wrap .i64 ((3 : Int) * acc)))) N (by simp <;> omega))
  have g11 := E7.old gx
  have ew1 : w1 = (i64 (modI (IntKind.wrap .i64 ((((i : Nat) : Int)) + (IntKind.wrap .i64 ((3 : Int) * acc)))) N)) := (Option.some.inj Q9.1).symm
  subst ew1
  have nxM3 : M3.next = M.next := by rw [← e6]; exact Q9.2
  have X12 := X0.trans E7
  obtain ⟨M13, q16, g15, kp16, X17, hM18, nx19⟩ := store_t (o := 3) (v := (i64 (modI (IntKind.wrap .i64 ((((i : Nat) : Int)) + (IntKind.wrap .i64 ((3 : Int) * acc)))) N))) (new := [(i64 c0), (i64 c1), (i64 c2), (i64 (modI (IntKind.wrap .i64 ((((i : Nat) : Int)) + (IntKind.wrap .i64 ((3 : Int) * acc)))) N)), (i64 c4)]) X12 nx hM8 dS3 g11 rfl rfl (Nat.zero_le _) (Nat.le_of_ble_eq_true rfl) rfl
  replace g15 : M13.get x = some ⟨[(i64 c0), (i64 c1), (i64 c2), (i64 (modI (IntKind.wrap .i64 ((((i : Nat) : Int)) + (IntKind.wrap .i64 ((3 : Int) * acc)))) N)), (i64 c4)], 62, 1, 0, true⟩ := g15
  have hraw := rI3N_raw r6 p x i a q c N acc z c0 c1 c2 c3 c4 M M3 M13
  have hkp : ∀ id k, M.get id = some k → id ≠ x → M13.get id = some k := fun id k g hx => by
    have g0 := g
    have g := E7.old g
    have g := ((fun id h _ => kp16 id h) id hx (Mem.lt_of_get g)).trans g
    exact g
  obtain ⟨T1, h1, h2⟩ := Rd.told noNumP mixedP (fun B => specsB_ok (k := []) (hS14_17 B) (fun p hp => by cases hp)) (fun _ _ => rfl) hraw (hk (lN hln) (hk (bF cc0) (hk (q_call rfl p4 l5 e6) (hk (q_st q16) hn))))
  exact ⟨T1, M13, h1, h2, X17, hM18, g15, hkp⟩
theorem rI4Y_raw (r6 p x i : Nat) (bb o q c : Nat) (N acc z c0 c1 c2 c3 c4 : Int) (M : Mem) (M3 : Mem) (M13 : Mem) : oR Tryz.prog [] 40 Tryz.f16 (q16.loopAt 2) [(1, (sli bb o q c)), (2, (i64 acc)), (6, (pt r6 0)), (7, (pt p 0)), (8, (i64 N)), (9, (i64 (((i : Nat) : Int)))), (10, (pt x 0)), (11, (i64 4))] M [ttT 23, ttT 31, ttL 33 (i64 z), ttV 37 (i64 (modI z N)) M3, ttS 41 M13] [1, 2, 6, 7, 8, 9, 10, 11] = some (.normal, [some (sli bb o q c), some (i64 acc), some (pt r6 0), some (pt p 0), some (i64 N), some (i64 (((i : Nat) : Int))), some (pt x 0), some (i64 5)], M13, [qT (decide ((IntKind.wrap .i64 ((IntKind.wrap .i64 ((5 : Int) * (((i : Nat) : Int)))) + (4 : Int))) < (((q : Nat) : Int)))), .q (.inb (IntKind.wrap .i64 ((IntKind.wrap .i64 ((5 : Int) * (((i : Nat) : Int)))) + (4 : Int))) q) (ansB true), qL 3 bb (o + (IntKind.wrap .i64 ((IntKind.wrap .i64 ((5 : Int) * (((i : Nat) : Int)))) + (4 : Int)) : Int).toNat * 1) M (i64 z), qC 40 [(i64 z), (i64 N)] M (i64 (modI z N)) M3, qS 3 x 4 (i64 (modI z N)) M3 M13]) := by kernel_rfl
theorem rI4Y (r6 p x i : Nat) (bb o q c : Nat) (N acc z c0 c1 c2 c3 c4 : Int) {M : Mem} (hM : MemOk M) {M0 : Mem} (X0 : Ext M0 M) (nx : M0.next ≤ x) (hN : 1 ≤ N ∧ N ≤ 9) (gx : M.get x = some ⟨[i64 c0, i64 c1, i64 c2, i64 c3, i64 c4], 62, 1, 0, true⟩) (hk0 : 0 ≤ IntKind.wrap .i64 ((IntKind.wrap .i64 ((5 : Int) * (((i : Nat) : Int)))) + (4 : Int))) (hld : aload Tryz.prog 3 ⟨bb, o + (IntKind.wrap .i64 ((IntKind.wrap .i64 ((5 : Int) * (((i : Nat) : Int)))) + (4 : Int))).toNat * 1, none⟩ M = some (i64 z)) (cc0 : (decide ((IntKind.wrap .i64 ((IntKind.wrap .i64 ((5 : Int) * (((i : Nat) : Int)))) + (4 : Int))) < (((q : Nat) : Int)))) = true) : ∃ T1 M', Rd Tryz.prog [] (q16.loopAt 2) Tryz.f16.ntmps (fr [(1, (sli bb o q c)), (2, (i64 acc)), (6, (pt r6 0)), (7, (pt p 0)), (8, (i64 N)), (9, (i64 (((i : Nat) : Int)))), (10, (pt x 0)), (11, (i64 4))]) M .normal T1 M' ∧ [1, 2, 6, 7, 8, 9, 10, 11].map T1.get = [some (sli bb o q c), some (i64 acc), some (pt r6 0), some (pt p 0), some (i64 N), some (i64 (((i : Nat) : Int))), some (pt x 0), some (i64 5)] ∧ Ext M0 M' ∧ MemOk M' ∧ M'.get x = some ⟨[(i64 c0), (i64 c1), (i64 c2), (i64 c3), (i64 (modI z N))], 62, 1, 0, true⟩ ∧ ∀ id k, M.get id = some k → id ≠ x → M'.get id = some k := by
  obtain ⟨w1, N2, M3, p4, l5, e6, E7, hM8, Q9, G10⟩ := call_t (P := Tryz.prog) (GL := []) (f := 40) hM (con40 z N (by simp <;> omega))
  have g11 := E7.old gx
  have ew1 : w1 = (i64 (modI z N)) := (Option.some.inj Q9.1).symm
  subst ew1
  have nxM3 : M3.next = M.next := by rw [← e6]; exact Q9.2
  have X12 := X0.trans E7
  obtain ⟨M13, q16, g15, kp16, X17, hM18, nx19⟩ := store_t (o := 4) (v := (i64 (modI z N))) (new := [(i64 c0), (i64 c1), (i64 c2), (i64 c3), (i64 (modI z N))]) X12 nx hM8 dS3 g11 rfl rfl (Nat.zero_le _) (Nat.le_of_ble_eq_true rfl) rfl
  replace g15 : M13.get x = some ⟨[(i64 c0), (i64 c1), (i64 c2), (i64 c3), (i64 (modI z N))], 62, 1, 0, true⟩ := g15
  have hraw := rI4Y_raw r6 p x i bb o q c N acc z c0 c1 c2 c3 c4 M M3 M13
  have hkp : ∀ id k, M.get id = some k → id ≠ x → M13.get id = some k := fun id k g hx => by
    have g0 := g
    have g := E7.old g
    have g := ((fun id h _ => kp16 id h) id hx (Mem.lt_of_get g)).trans g
    exact g
  obtain ⟨T1, h1, h2⟩ := Rd.told noNumP mixedP (fun B => specsB_ok (k := []) (hS14_17 B) (fun p hp => by cases hp)) (fun _ _ => rfl) hraw (hk (bT cc0) (hk (q_inb hk0 (of_decide_eq_true cc0)) (hk (q_ld (hld)) (hk (q_call rfl p4 l5 e6) (hk (q_st q16) hn)))))
  exact ⟨T1, M13, h1, h2, X17, hM18, g15, hkp⟩
theorem rI4N_raw (r6 p x i : Nat) (a : Option Addr) (q c : Nat) (N acc z c0 c1 c2 c3 c4 : Int) (M : Mem) (M3 : Mem) (M13 : Mem) : oR Tryz.prog [] 40 Tryz.f16 (q16.loopAt 2) [(1, (.slice a q c)), (2, (i64 acc)), (6, (pt r6 0)), (7, (pt p 0)), (8, (i64 N)), (9, (i64 (((i : Nat) : Int)))), (10, (pt x 0)), (11, (i64 4))] M [ttT 20, ttF 23, ttV 39 (i64 (modI (IntKind.wrap .i64 ((((i : Nat) : Int)) + (IntKind.wrap .i64 ((4 : Int) * acc)))) N)) M3, ttS 43 M13] [1, 2, 6, 7, 8, 9, 10, 11] = some (.normal, [some (.slice a q c), some (i64 acc), some (pt r6 0), some (pt p 0), some (i64 N), some (i64 (((i : Nat) : Int))), some (pt x 0), some (i64 5)], M13, [.ln a q c, qF (decide ((IntKind.wrap .i64 ((IntKind.wrap .i64 ((5 : Int) * (((i : Nat) : Int)))) + (4 : Int))) < (((q : Nat) : Int)))), qC 40 [(i64 (IntKind.wrap .i64 ((((i : Nat) : Int)) + (IntKind.wrap .i64 ((4 : Int) * acc))))), (i64 N)] M (i64 (modI (IntKind.wrap .i64 ((((i : Nat) : Int)) + (IntKind.wrap .i64 ((4 : Int) * acc)))) N)) M3, qS 3 x 4 (i64 (modI (IntKind.wrap .i64 ((((i : Nat) : Int)) + (IntKind.wrap .i64 ((4 : Int) * acc)))) N)) M3 M13]) := by kernel_rfl
theorem rI4N (r6 p x i : Nat) (a : Option Addr) (q c : Nat) (N acc z c0 c1 c2 c3 c4 : Int) {M : Mem} (hM : MemOk M) {M0 : Mem} (X0 : Ext M0 M) (nx : M0.next ≤ x) (hN : 1 ≤ N ∧ N ≤ 9) (gx : M.get x = some ⟨[i64 c0, i64 c1, i64 c2, i64 c3, i64 c4], 62, 1, 0, true⟩) (hln : a.isNone = true → q = 0 ∧ c = 0) (cc0 : (decide ((IntKind.wrap .i64 ((IntKind.wrap .i64 ((5 : Int) * (((i : Nat) : Int)))) + (4 : Int))) < (((q : Nat) : Int)))) = false) : ∃ T1 M', Rd Tryz.prog [] (q16.loopAt 2) Tryz.f16.ntmps (fr [(1, (.slice a q c)), (2, (i64 acc)), (6, (pt r6 0)), (7, (pt p 0)), (8, (i64 N)), (9, (i64 (((i : Nat) : Int)))), (10, (pt x 0)), (11, (i64 4))]) M .normal T1 M' ∧ [1, 2, 6, 7, 8, 9, 10, 11].map T1.get = [some (.slice a q c), some (i64 acc), some (pt r6 0), some (pt p 0), some (i64 N), some (i64 (((i : Nat) : Int))), some (pt x 0), some (i64 5)] ∧ Ext M0 M' ∧ MemOk M' ∧ M'.get x = some ⟨[(i64 c0), (i64 c1), (i64 c2), (i64 c3), (i64 (modI (IntKind.wrap .i64 ((((i : Nat) : Int)) + (IntKind.wrap .i64 ((4 : Int) * acc)))) N))], 62, 1, 0, true⟩ ∧ ∀ id k, M.get id = some k → id ≠ x → M'.get id = some k := by
  obtain ⟨w1, N2, M3, p4, l5, e6, E7, hM8, Q9, G10⟩ := call_t (P := Tryz.prog) (GL := []) (f := 40) hM (con40 (IntKind.wrap .i64 ((((i : Nat) : Int)) + (IntKind.wrap .i64 ((4 : Int) * acc)))) N (by simp <;> omega))
  have g11 := E7.old gx
  have ew1 : w1 = (i64 (modI (IntKind.wrap .i64 ((((i : Nat) : Int)) + (IntKind.wrap .i64 ((4 : Int) * acc)))) N)) := (Option.some.inj Q9.1).symm
  subst ew1
  have nxM3 : M3.next = M.next := by rw [← e6]; exact Q9.2
  have X12 := X0.trans E7
  obtain ⟨M13, q16, g15, kp16, X17, hM18, nx19⟩ := store_t (o := 4) (v := (i64 (modI (IntKind.wrap .i64 ((((i : Nat) : Int)) + (IntKind.wrap .i64 ((4 : Int) * acc)))) N))) (new := [(i64 c0), (i64 c1), (i64 c2), (i64 c3), (i64 (modI (IntKind.wrap .i64 ((((i : Nat) : Int)) + (IntKind.wrap .i64 ((4 : Int) * acc)))) N))]) X12 nx hM8 dS3 g11 rfl rfl (Nat.zero_le _) (Nat.le_of_ble_eq_true rfl) rfl
  replace g15 : M13.get x = some ⟨[(i64 c0), (i64 c1), (i64 c2), (i64 c3), (i64 (modI (IntKind.wrap .i64 ((((i : Nat) : Int)) + (IntKind.wrap .i64 ((4 : Int) * acc)))) N))], 62, 1, 0, true⟩ := g15
  have hraw := rI4N_raw r6 p x i a q c N acc z c0 c1 c2 c3 c4 M M3 M13
  have hkp : ∀ id k, M.get id = some k → id ≠ x → M13.get id = some k := fun id k g hx => by
    have g0 := g
    have g := E7.old g
    have g := ((fun id h _ => kp16 id h) id hx (Mem.lt_of_get g)).trans g
    exact g
  obtain ⟨T1, h1, h2⟩ := Rd.told noNumP mixedP (fun B => specsB_ok (k := []) (hS14_17 B) (fun p hp => by cases hp)) (fun _ _ => rfl) hraw (hk (lN hln) (hk (bF cc0) (hk (q_call rfl p4 l5 e6) (hk (q_st q16) hn))))
  exact ⟨T1, M13, h1, h2, X17, hM18, g15, hkp⟩
theorem rI5X_raw (r6 p x i : Nat) (a : Option Addr) (q c : Nat) (N acc z c0 c1 c2 c3 c4 : Int) (M : Mem)  : oR Tryz.prog [] 40 Tryz.f16 (q16.loopAt 2) [(1, (.slice a q c)), (2, (i64 acc)), (6, (pt r6 0)), (7, (pt p 0)), (8, (i64 N)), (9, (i64 (((i : Nat) : Int)))), (10, (pt x 0)), (11, (i64 5))] M [] [1, 2, 6, 7, 8, 9, 10] = some ((.exit 2), [some (.slice a q c), some (i64 acc), some (pt r6 0), some (pt p 0), some (i64 N), some (i64 (((i : Nat) : Int))), some (pt x 0)], M, []) := by kernel_rfl
theorem rI5X (r6 p x i : Nat) (a : Option Addr) (q c : Nat) (N acc z c0 c1 c2 c3 c4 : Int) {M : Mem} {M0 : Mem} (X0 : Ext M0 M) (nx : M0.next ≤ x) (hN : 1 ≤ N ∧ N ≤ 9) (gx : M.get x = some ⟨[i64 c0, i64 c1, i64 c2, i64 c3, i64 c4], 62, 1, 0, true⟩) (hln : a.isNone = true → q = 0 ∧ c = 0) : ∃ T1, Rd Tryz.prog [] (q16.loopAt 2) Tryz.f16.ntmps (fr [(1, (.slice a q c)), (2, (i64 acc)), (6, (pt r6 0)), (7, (pt p 0)), (8, (i64 N)), (9, (i64 (((i : Nat) : Int)))), (10, (pt x 0)), (11, (i64 5))]) M (.exit 2) T1 M ∧ [1, 2, 6, 7, 8, 9, 10].map T1.get = [some (.slice a q c), some (i64 acc), some (pt r6 0), some (pt p 0), some (i64 N), some (i64 (((i : Nat) : Int))), some (pt x 0)] := by
  have hraw := rI5X_raw r6 p x i a q c N acc z c0 c1 c2 c3 c4 M 
  obtain ⟨T1, h1, h2⟩ := Rd.told noNumP mixedP (specs_none Tryz.prog) (fun _ _ => rfl) hraw hn
  exact ⟨T1, h1, h2⟩
def cellI (N : Int) (ns : List Int) (acc : Int) (i j : Nat) : Int :=
  match ns[5 * i + j]? with
  | some z => modI z N
  | none => modI (IntKind.wrap .i64 (((i : Nat) : Int) + IntKind.wrap .i64 (((j : Nat) : Int) * acc))) N
theorem kI_eq {i j : Nat} (hi : i < 1000) (hj : j < 1000) : IntKind.wrap .i64 ((IntKind.wrap .i64 ((5 : Int) * ((i : Nat) : Int))) + ((j : Nat) : Int)) = ((5 * i + j : Nat) : Int) := by
  rw [Go.Am.wrap_small (i := (5 : Int) * ((i : Nat) : Int)) (by omega) (by omega), Go.Am.wrap_small (by omega) (by omega)]
  omega
theorem cellI_some {N acc : Int} {ns : List Int} {i j : Nat} (h : 5 * i + j < ns.length) : cellI N ns acc i j = modI ns[5 * i + j] N := by
  unfold cellI; rw [List.getElem?_eq_getElem h]
theorem cellI_none {N acc : Int} {ns : List Int} {i j : Nat} (h : ¬ 5 * i + j < ns.length) : cellI N ns acc i j = modI (IntKind.wrap .i64 (((i : Nat) : Int) + IntKind.wrap .i64 (((j : Nat) : Int) * acc))) N := by
  unfold cellI; rw [List.getElem?_eq_none (by omega)]
theorem one_at {M : Mem} {a : Option Addr} {c n : Nat} {ns : List Int} (hs : FlatAt 1 M (.slice a n c) (ns.map ([·]))) (hn : 0 < ns.length) : ∃ bb o, a = some ⟨bb, o, none⟩ ∧ ∀ k (h : k < ns.length), aload Tryz.prog 3 ⟨bb, o + k * 1, none⟩ M = some (i64 ns[k]) := by
  rcases id hs.at_ with ⟨_, _, h0⟩ | ⟨bb, o, c', blk, pre, post, e1, _⟩
  · rw [List.length_map] at h0; omega
  · have ea : a = some ⟨bb, o, none⟩ := by simp only [Value.slice.injEq] at e1; exact e1.1
    subst ea
    refine ⟨bb, o, rfl, fun k h => ?_⟩
    have hz : ns[k]? = some ns[k] := List.getElem?_eq_getElem h
    exact load_flat_cell (P := Tryz.prog) (ty := 3) (i := k) (j := 0) (r := [ns[k]]) (z := ns[k]) hs (by simp [hz]) rfl dC3
theorem rI0 (r6 p x i : Nat) (a : Option Addr) (c : Nat) (ns : List Int) (N acc c0 c1 c2 c3 c4 : Int) {M : Mem} (hM : MemOk M) {M0 : Mem} (hs : FlatAt 1 M (.slice a ns.length c) (ns.map ([·]))) (X0 : Ext M0 M) (nx : M0.next ≤ x) (hN : 1 ≤ N ∧ N ≤ 9) (hi : i < 1000) (gx : M.get x = some ⟨[i64 c0, i64 c1, i64 c2, i64 c3, i64 c4], 62, 1, 0, true⟩) :
    ∃ T1 M', Rd Tryz.prog [] (q16.loopAt 2) Tryz.f16.ntmps (fr [(1, .slice a ns.length c), (2, i64 acc), (6, pt r6 0), (7, pt p 0), (8, i64 N), (9, i64 ((i : Nat) : Int)), (10, pt x 0), (11, i64 0)]) M .normal T1 M' ∧ [1, 2, 6, 7, 8, 9, 10, 11].map T1.get = [some (.slice a ns.length c), some (i64 acc), some (pt r6 0), some (pt p 0), some (i64 N), some (i64 ((i : Nat) : Int)), some (pt x 0), some (i64 1)] ∧ Ext M0 M' ∧ MemOk M' ∧ M'.get x = some ⟨[i64 (cellI N ns acc i 0), i64 c1, i64 c2, i64 c3, i64 c4], 62, 1, 0, true⟩ ∧ ∀ id k, M.get id = some k → id ≠ x → M'.get id = some k := by
  have hk : IntKind.wrap .i64 ((IntKind.wrap .i64 ((5 : Int) * (((i : Nat) : Int)))) + (0 : Int)) = ((5 * i + 0 : Nat) : Int) := kI_eq (i := i) (j := 0) hi (by decide)
  by_cases h : 5 * i + 0 < ns.length
  · obtain ⟨bb, o, rfl, hl⟩ := one_at hs (by omega)
    rw [cellI_some h]
    exact rI0Y r6 p x i bb o ns.length c N acc ns[5 * i + 0] c0 c1 c2 c3 c4 hM X0 nx hN gx (by have := hk; omega) (by rw [show (IntKind.wrap .i64 ((IntKind.wrap .i64 ((5 : Int) * (((i : Nat) : Int)))) + (0 : Int))).toNat = 5 * i + 0 by have := hk; omega]; exact hl _ h) (decide_eq_true (by have := hk; omega))
  · rw [cellI_none h]
    exact rI0N r6 p x i a ns.length c N acc 0 c0 c1 c2 c3 c4 hM X0 nx hN gx hs.ln (decide_eq_false (by have := hk; omega))
theorem rI1 (r6 p x i : Nat) (a : Option Addr) (c : Nat) (ns : List Int) (N acc c0 c1 c2 c3 c4 : Int) {M : Mem} (hM : MemOk M) {M0 : Mem} (hs : FlatAt 1 M (.slice a ns.length c) (ns.map ([·]))) (X0 : Ext M0 M) (nx : M0.next ≤ x) (hN : 1 ≤ N ∧ N ≤ 9) (hi : i < 1000) (gx : M.get x = some ⟨[i64 c0, i64 c1, i64 c2, i64 c3, i64 c4], 62, 1, 0, true⟩) :
    ∃ T1 M', Rd Tryz.prog [] (q16.loopAt 2) Tryz.f16.ntmps (fr [(1, .slice a ns.length c), (2, i64 acc), (6, pt r6 0), (7, pt p 0), (8, i64 N), (9, i64 ((i : Nat) : Int)), (10, pt x 0), (11, i64 1)]) M .normal T1 M' ∧ [1, 2, 6, 7, 8, 9, 10, 11].map T1.get = [some (.slice a ns.length c), some (i64 acc), some (pt r6 0), some (pt p 0), some (i64 N), some (i64 ((i : Nat) : Int)), some (pt x 0), some (i64 2)] ∧ Ext M0 M' ∧ MemOk M' ∧ M'.get x = some ⟨[i64 c0, i64 (cellI N ns acc i 1), i64 c2, i64 c3, i64 c4], 62, 1, 0, true⟩ ∧ ∀ id k, M.get id = some k → id ≠ x → M'.get id = some k := by
  have hk : IntKind.wrap .i64 ((IntKind.wrap .i64 ((5 : Int) * (((i : Nat) : Int)))) + (1 : Int)) = ((5 * i + 1 : Nat) : Int) := kI_eq (i := i) (j := 1) hi (by decide)
  by_cases h : 5 * i + 1 < ns.length
  · obtain ⟨bb, o, rfl, hl⟩ := one_at hs (by omega)
    rw [cellI_some h]
    exact rI1Y r6 p x i bb o ns.length c N acc ns[5 * i + 1] c0 c1 c2 c3 c4 hM X0 nx hN gx (by have := hk; omega) (by rw [show (IntKind.wrap .i64 ((IntKind.wrap .i64 ((5 : Int) * (((i : Nat) : Int)))) + (1 : Int))).toNat = 5 * i + 1 by have := hk; omega]; exact hl _ h) (decide_eq_true (by have := hk; omega))
  · rw [cellI_none h]
    exact rI1N r6 p x i a ns.length c N acc 0 c0 c1 c2 c3 c4 hM X0 nx hN gx hs.ln (decide_eq_false (by have := hk; omega))
theorem rI2 (r6 p x i : Nat) (a : Option Addr) (c : Nat) (ns : List Int) (N acc c0 c1 c2 c3 c4 : Int) {M : Mem} (hM : MemOk M) {M0 : Mem} (hs : FlatAt 1 M (.slice a ns.length c) (ns.map ([·]))) (X0 : Ext M0 M) (nx : M0.next ≤ x) (hN : 1 ≤ N ∧ N ≤ 9) (hi : i < 1000) (gx : M.get x = some ⟨[i64 c0, i64 c1, i64 c2, i64 c3, i64 c4], 62, 1, 0, true⟩) :
    ∃ T1 M', Rd Tryz.prog [] (q16.loopAt 2) Tryz.f16.ntmps (fr [(1, .slice a ns.length c), (2, i64 acc), (6, pt r6 0), (7, pt p 0), (8, i64 N), (9, i64 ((i : Nat) : Int)), (10, pt x 0), (11, i64 2)]) M .normal T1 M' ∧ [1, 2, 6, 7, 8, 9, 10, 11].map T1.get = [some (.slice a ns.length c), some (i64 acc), some (pt r6 0), some (pt p 0), some (i64 N), some (i64 ((i : Nat) : Int)), some (pt x 0), some (i64 3)] ∧ Ext M0 M' ∧ MemOk M' ∧ M'.get x = some ⟨[i64 c0, i64 c1, i64 (cellI N ns acc i 2), i64 c3, i64 c4], 62, 1, 0, true⟩ ∧ ∀ id k, M.get id = some k → id ≠ x → M'.get id = some k := by
  have hk : IntKind.wrap .i64 ((IntKind.wrap .i64 ((5 : Int) * (((i : Nat) : Int)))) + (2 : Int)) = ((5 * i + 2 : Nat) : Int) := kI_eq (i := i) (j := 2) hi (by decide)
  by_cases h : 5 * i + 2 < ns.length
  · obtain ⟨bb, o, rfl, hl⟩ := one_at hs (by omega)
    rw [cellI_some h]
    exact rI2Y r6 p x i bb o ns.length c N acc ns[5 * i + 2] c0 c1 c2 c3 c4 hM X0 nx hN gx (by have := hk; omega) (by rw [show (IntKind.wrap .i64 ((IntKind.wrap .i64 ((5 : Int) * (((i : Nat) : Int)))) + (2 : Int))).toNat = 5 * i + 2 by have := hk; omega]; exact hl _ h) (decide_eq_true (by have := hk; omega))
  · rw [cellI_none h]
    exact rI2N r6 p x i a ns.length c N acc 0 c0 c1 c2 c3 c4 hM X0 nx hN gx hs.ln (decide_eq_false (by have := hk; omega))
theorem rI3 (r6 p x i : Nat) (a : Option Addr) (c : Nat) (ns : List Int) (N acc c0 c1 c2 c3 c4 : Int) {M : Mem} (hM : MemOk M) {M0 : Mem} (hs : FlatAt 1 M (.slice a ns.length c) (ns.map ([·]))) (X0 : Ext M0 M) (nx : M0.next ≤ x) (hN : 1 ≤ N ∧ N ≤ 9) (hi : i < 1000) (gx : M.get x = some ⟨[i64 c0, i64 c1, i64 c2, i64 c3, i64 c4], 62, 1, 0, true⟩) :
    ∃ T1 M', Rd Tryz.prog [] (q16.loopAt 2) Tryz.f16.ntmps (fr [(1, .slice a ns.length c), (2, i64 acc), (6, pt r6 0), (7, pt p 0), (8, i64 N), (9, i64 ((i : Nat) : Int)), (10, pt x 0), (11, i64 3)]) M .normal T1 M' ∧ [1, 2, 6, 7, 8, 9, 10, 11].map T1.get = [some (.slice a ns.length c), some (i64 acc), some (pt r6 0), some (pt p 0), some (i64 N), some (i64 ((i : Nat) : Int)), some (pt x 0), some (i64 4)] ∧ Ext M0 M' ∧ MemOk M' ∧ M'.get x = some ⟨[i64 c0, i64 c1, i64 c2, i64 (cellI N ns acc i 3), i64 c4], 62, 1, 0, true⟩ ∧ ∀ id k, M.get id = some k → id ≠ x → M'.get id = some k := by
  have hk : IntKind.wrap .i64 ((IntKind.wrap .i64 ((5 : Int) * (((i : Nat) : Int)))) + (3 : Int)) = ((5 * i + 3 : Nat) : Int) := kI_eq (i := i) (j := 3) hi (by decide)
  by_cases h : 5 * i + 3 < ns.length
  · obtain ⟨bb, o, rfl, hl⟩ := one_at hs (by omega)
    rw [cellI_some h]
    exact rI3Y r6 p x i bb o ns.length c N acc ns[5 * i + 3] c0 c1 c2 c3 c4 hM X0 nx hN gx (by have := hk; omega) (by rw [show (IntKind.wrap .i64 ((IntKind.wrap .i64 ((5 : Int) * (((i : Nat) : Int)))) + (3 : Int))).toNat = 5 * i + 3 by have := hk; omega]; exact hl _ h) (decide_eq_true (by have := hk; omega))
  · rw [cellI_none h]
    exact rI3N r6 p x i a ns.length c N acc 0 c0 c1 c2 c3 c4 hM X0 nx hN gx hs.ln (decide_eq_false (by have := hk; omega))
theorem rI4 (r6 p x i : Nat) (a : Option Addr) (c : Nat) (ns : List Int) (N acc c0 c1 c2 c3 c4 : Int) {M : Mem} (hM : MemOk M) {M0 : Mem} (hs : FlatAt 1 M (.slice a ns.length c) (ns.map ([·]))) (X0 : Ext M0 M) (nx : M0.next ≤ x) (hN : 1 ≤ N ∧ N ≤ 9) (hi : i < 1000) (gx : M.get x = some ⟨[i64 c0, i64 c1, i64 c2, i64 c3, i64 c4], 62, 1, 0, true⟩) :
    ∃ T1 M', Rd Tryz.prog [] (q16.loopAt 2) Tryz.f16.ntmps (fr [(1, .slice a ns.length c), (2, i64 acc), (6, pt r6 0), (7, pt p 0), (8, i64 N), (9, i64 ((i : Nat) : Int)), (10, pt x 0), (11, i64 4)]) M .normal T1 M' ∧ [1, 2, 6, 7, 8, 9, 10, 11].map T1.get = [some (.slice a ns.length c), some (i64 acc), some (pt r6 0), some (pt p 0), some (i64 N), some (i64 ((i : Nat) : Int)), some (pt x 0), some (i64 5)] ∧ Ext M0 M' ∧ MemOk M' ∧ M'.get x = some ⟨[i64 c0, i64 c1, i64 c2, i64 c3, i64 (cellI N ns acc i 4)], 62, 1, 0, true⟩ ∧ ∀ id k, M.get id = some k → id ≠ x → M'.get id = some k := by
  have hk : IntKind.wrap .i64 ((IntKind.wrap .i64 ((5 : Int) * (((i : Nat) : Int)))) + (4 : Int)) = ((5 * i + 4 : Nat) : Int) := kI_eq (i := i) (j := 4) hi (by decide)
  by_cases h : 5 * i + 4 < ns.length
  · obtain ⟨bb, o, rfl, hl⟩ := one_at hs (by omega)
    rw [cellI_some h]
    exact rI4Y r6 p x i bb o ns.length c N acc ns[5 * i + 4] c0 c1 c2 c3 c4 hM X0 nx hN gx (by have := hk; omega) (by rw [show (IntKind.wrap .i64 ((IntKind.wrap .i64 ((5 : Int) * (((i : Nat) : Int)))) + (4 : Int))).toNat = 5 * i + 4 by have := hk; omega]; exact hl _ h) (decide_eq_true (by have := hk; omega))
  · rw [cellI_none h]
    exact rI4N r6 p x i a ns.length c N acc 0 c0 c1 c2 c3 c4 hM X0 nx hN gx hs.ln (decide_eq_false (by have := hk; omega))
theorem inner14 (r6 p x i : Nat) (a : Option Addr) (c : Nat) (ns : List Int) (N acc c0 c1 c2 c3 c4 : Int) {M : Mem} (hM : MemOk M) {M0 : Mem} (hs : FlatAt 1 M0 (.slice a ns.length c) (ns.map ([·]))) (X0 : Ext M0 M) (nx : M0.next ≤ x) (hN : 1 ≤ N ∧ N ≤ 9) (hi : i < 1000) (gx : M.get x = some ⟨[i64 c0, i64 c1, i64 c2, i64 c3, i64 c4], 62, 1, 0, true⟩) :
    ∃ M', LoopR Tryz.prog [] (q16.loopAt 2) Tryz.f16.ntmps (fr [(1, .slice a ns.length c), (2, i64 acc), (6, pt r6 0), (7, pt p 0), (8, i64 N), (9, i64 ((i : Nat) : Int)), (10, pt x 0), (11, i64 0)]) M (.exit 2) (fr [(1, .slice a ns.length c), (2, i64 acc), (6, pt r6 0), (7, pt p 0), (8, i64 N), (9, i64 ((i : Nat) : Int)), (10, pt x 0)]) M' ∧ Ext M0 M' ∧ MemOk M' ∧ M'.get x = some ⟨[i64 (cellI N ns acc i 0), i64 (cellI N ns acc i 1), i64 (cellI N ns acc i 2), i64 (cellI N ns acc i 3), i64 (cellI N ns acc i 4)], 62, 1, 0, true⟩ ∧ ∀ id k, M.get id = some k → id ≠ x → M'.get id = some k := by
  obtain ⟨T0, M1, a0, b0, X1, hM1, g1, k0⟩ := rI0 r6 p x i a c ns N acc c0 c1 c2 c3 c4 hM (hs.Ext X0) X0 nx hN hi gx
  obtain ⟨T1, M2, a1, b1, X2, hM2, g2, k1⟩ := rI1 r6 p x i a c ns N acc _ c1 c2 c3 c4 hM1 (hs.Ext X1) X1 nx hN hi g1
  obtain ⟨T2, M3, a2, b2, X3, hM3, g3, k2⟩ := rI2 r6 p x i a c ns N acc _ _ c2 c3 c4 hM2 (hs.Ext X2) X2 nx hN hi g2
  obtain ⟨T3, M4, a3, b3, X4, hM4, g4, k3⟩ := rI3 r6 p x i a c ns N acc _ _ _ c3 c4 hM3 (hs.Ext X3) X3 nx hN hi g3
  obtain ⟨T4, M5, a4, b4, X5, hM5, g5, k4⟩ := rI4 r6 p x i a c ns N acc _ _ _ _ c4 hM4 (hs.Ext X4) X4 nx hN hi g4
  obtain ⟨T5, a5, b5⟩ := rI5X r6 p x i a ns.length c N acc 0 _ _ _ _ _ (M := M5) X5 nx hN g5 hs.ln
  exact ⟨M5, LoopR.step a0 (TSub.fr (l := [(1, .slice a ns.length c), (2, i64 acc), (6, pt r6 0), (7, pt p 0), (8, i64 N), (9, i64 ((i : Nat) : Int)), (10, pt x 0), (11, i64 1)]) b0) (LoopR.step a1 (TSub.fr (l := [(1, .slice a ns.length c), (2, i64 acc), (6, pt r6 0), (7, pt p 0), (8, i64 N), (9, i64 ((i : Nat) : Int)), (10, pt x 0), (11, i64 2)]) b1) (LoopR.step a2 (TSub.fr (l := [(1, .slice a ns.length c), (2, i64 acc), (6, pt r6 0), (7, pt p 0), (8, i64 N), (9, i64 ((i : Nat) : Int)), (10, pt x 0), (11, i64 3)]) b2) (LoopR.step a3 (TSub.fr (l := [(1, .slice a ns.length c), (2, i64 acc), (6, pt r6 0), (7, pt p 0), (8, i64 N), (9, i64 ((i : Nat) : Int)), (10, pt x 0), (11, i64 4)]) b3) (LoopR.step a4 (TSub.fr (l := [(1, .slice a ns.length c), (2, i64 acc), (6, pt r6 0), (7, pt p 0), (8, i64 N), (9, i64 ((i : Nat) : Int)), (10, pt x 0), (11, i64 5)]) b4) (LoopR.stop a5 (by simp) (TSub.fr (l := [(1, .slice a ns.length c), (2, i64 acc), (6, pt r6 0), (7, pt p 0), (8, i64 N), (9, i64 ((i : Nat) : Int)), (10, pt x 0)]) b5)))))), X5, hM5, g5, fun id k h hx => k4 id k (k3 id k (k2 id k (k1 id k (k0 id k h hx) hx) hx) hx) hx⟩
end Go.Proofs.YtchnlooenomfnaaGreatDoor
