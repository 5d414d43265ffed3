/-
  What is proved: MiniSteady: a machine of Make's is steady just if a letter twice is a letter once: for every x, y, every word. For every argument; one laid table (math/bits) is tied by the card.
-/
import Derived.Test.YtchnlooenomfnaaGreatDoorS3
set_option linter.unusedVariables false
set_option linter.unusedSimpArgs false
open Go Go.Am Go.Proofs
namespace Go.Proofs.YtchnlooenomfnaaGreatDoor
set_option maxRecDepth 100000
def RowG (M0 M : Mem) (p r6 el w : Nat) (S : Value) (n : Nat) (cs : List Value) (b : Nat) : Prop :=
  (n = 0 ∧ S = sln) ∨ (S = sli b 0 n n ∧ 0 < n ∧ M0.next ≤ b ∧ p ≠ b ∧ r6 ≠ b ∧ M.get b = some ⟨cs, el, w, 0, true⟩)
theorem irows_app (l : List (List Int)) (r : List Int) : (irows (l ++ [r])).flatten = (irows l).flatten ++ r.map i64 := by simp [irows]
theorem irows_flen {w : Nat} {l : List (List Int)} (h : ∀ r ∈ l, r.length = w) : (irows l).flatten.length = l.length * w := by
  induction l with
  | nil => simp [irows]
  | cons r l ih =>
    have h1 := h r (List.mem_cons_self ..)
    have h2 := ih fun r hr => h r (List.mem_cons_of_mem _ hr)
    simp only [irows, List.map_cons, List.flatten_cons, List.length_append, List.length_map, List.length_cons] at h2 ⊢
    rw [h2, h1, Nat.succ_mul, Nat.add_comm]
def rowsI (N : Int) (ns : List Int) (acc : Int) (i : Nat) : List (List Int) := (List.range i).map (rowI N ns acc)
def accsI (acc : Int) (i : Nat) : List Bool := (List.range i).map (accI acc)
theorem rowsI_len (N : Int) (ns : List Int) (acc : Int) (i : Nat) : (rowsI N ns acc i).length = i := by simp [rowsI]
theorem accsI_len (acc : Int) (i : Nat) : (accsI acc i).length = i := by simp [accsI]
theorem rowsI_succ (N : Int) (ns : List Int) (acc : Int) (i : Nat) : rowsI N ns acc (i + 1) = rowsI N ns acc i ++ [rowI N ns acc i] := by simp [rowsI, List.range_succ]
theorem accsI_succ (acc : Int) (i : Nat) : accsI acc (i + 1) = accsI acc i ++ [accI acc i] := by simp [accsI, List.range_succ]
theorem rowsI_wide (N : Int) (ns : List Int) (acc : Int) (i : Nat) : ∀ r ∈ rowsI N ns acc i, r.length = 5 := fun r hr => by
  obtain ⟨k, _, rfl⟩ := List.mem_map.1 hr
  rfl
def brows (l : List Bool) : List (List Value) := l.map bRow
theorem brows_app (l : List Bool) (b : Bool) : (brows (l ++ [b])).flatten = (brows l).flatten ++ [.bool b] := by simp [brows]
theorem brows_flen (l : List Bool) : (brows l).flatten.length = l.length * 1 := by
  induction l with
  | nil => rfl
  | cons b l ih => simp only [brows, List.map_cons, List.flatten_cons, List.length_append, List.length_cons] at ih ⊢; rw [ih]; simp; omega
structure MkD (M0 M : Mem) (p r6 : Nat) (k6 : ABlk) (N : Int) (ns : List Int) (acc : Int) (i : Nat) : Prop where
  ext : Ext M0 M
  ok : MemOk M
  np : M0.next ≤ p
  d6 : p ≠ r6
  g6 : M.get r6 = some k6
  at_ : ∃ S F bs bf, M.get p = some ⟨[S, F], 27, 2, 0, true⟩ ∧ RowG M0 M p r6 62 5 S i (irows (rowsI N ns acc i)).flatten bs ∧ RowG M0 M p r6 4 1 F i (brows (accsI acc i)).flatten bf ∧ (0 < i → bs ≠ bf)
theorem mk_step {M0 M : Mem} {p r6 : Nat} {k6 : ABlk} {N acc : Int} {ns : List Int} {i : Nat} {a : Option Addr} {c : Nat} (hs : FlatAt 1 M0 (.slice a ns.length c) (ns.map ([·]))) (h : MkD M0 M p r6 k6 N ns acc i) (hN : 1 ≤ N ∧ N ≤ 9) (hi : ((i : Nat) : Int) < N) :
    ∃ T1 M', Rd Tryz.prog [] (q16.loopAt 0) Tryz.f16.ntmps (fr [(1, (.slice a ns.length c)), (2, (i64 acc)), (6, (pt r6 0)), (7, (pt p 0)), (8, (i64 N)), (9, (i64 (((i : Nat) : Int))))]) M .normal T1 M' ∧ [1, 2, 6, 7, 8, 9].map T1.get = [some (.slice a ns.length c), some (i64 acc), some (pt r6 0), some (pt p 0), some (i64 N), some (i64 (IntKind.wrap .i64 ((((i : Nat) : Int)) + (1 : Int))))] ∧
      MkD M0 M' p r6 k6 N ns acc (i + 1) := by
  obtain ⟨S, F, bs, bf, gp, hS, hF, hd⟩ := h.at_
  have ha : ((modI (acc.fdiv (2 ^ (IntKind.wrap .u64 (((i : Nat) : Int))).toNat)) 2) == (1 : Int)) = accI acc i := by
    rw [u64_small (by omega)]; rfl
  rcases hS with ⟨hS0, rfl⟩ | ⟨rfl, s2, s3, s4, s5, s7⟩ <;> rcases hF with ⟨hF0, rfl⟩ | ⟨rfl, f2, f3, f4, f5, f7⟩
  · obtain ⟨T1, M', b1, b2, e1, e2, e3, e4, e5, e6, ⟨e7, e8, e9, e10⟩, ⟨u7, u8, u9, u10⟩, e11⟩ := r14n p r6 i a c ns N acc k6 h.ok hs h.ext h.np hN (by omega) gp h.g6 h.d6 (decide_eq_true hi)
    subst hS0
    refine ⟨T1, M', e1, e2, e3, e4, h.np, h.d6, e6, _, _, b1, b2, e5, .inr ⟨rfl, Nat.one_pos, e7, e8, e9, ?_⟩, .inr ⟨rfl, Nat.one_pos, u7, u8, u9, ?_⟩, fun _ => e11⟩
    · rw [e10]; rfl
    · rw [u10, ha]; rfl
  · omega
  · omega
  · obtain ⟨T1, M', b1, b2, e1, e2, e3, e4, e5, e6, ⟨e7, e8, e9, e10⟩, ⟨u7, u8, u9, u10⟩, e11⟩ := r14s p r6 i a c ns N acc k6 bs bf _ _ h.ok hs h.ext h.np hN (by omega) gp h.g6 h.d6 s3 s7 s4 s5 (by rw [irows_flen (rowsI_wide N ns acc i), rowsI_len]) f3 f7 f4 f5 (by rw [brows_flen, accsI_len]) (hd s2) (decide_eq_true hi)
    refine ⟨T1, M', e1, e2, e3, e4, h.np, h.d6, e6, _, _, b1, b2, e5, .inr ⟨rfl, Nat.succ_pos _, e7, e8, e9, ?_⟩, .inr ⟨rfl, Nat.succ_pos _, u7, u8, u9, ?_⟩, fun _ => e11⟩
    · rw [e10, rowsI_succ, irows_app]; rfl
    · rw [u10, ha, accsI_succ, brows_app]
theorem loop14 {M0 : Mem} {a : Option Addr} {c : Nat} {ns : List Int} {N acc : Int} {p r6 : Nat} {k6 : ABlk} (hN : 1 ≤ N ∧ N ≤ 9) (hs : FlatAt 1 M0 (.slice a ns.length c) (ns.map ([·]))) : ∀ (k i : Nat), i + k = N.toNat → ∀ {M : Mem}, MkD M0 M p r6 k6 N ns acc i →
    ∃ M', LoopR Tryz.prog [] (q16.loopAt 0) Tryz.f16.ntmps (fr [(1, (.slice a ns.length c)), (2, (i64 acc)), (6, (pt r6 0)), (7, (pt p 0)), (8, (i64 N)), (9, (i64 (((i : Nat) : Int))))]) M (.exit 0) (fr [(6, pt r6 0), (7, pt p 0)]) M' ∧ MkD M0 M' p r6 k6 N ns acc N.toNat := by
  intro k
  induction k with
  | zero =>
    intro i hi M h
    obtain ⟨T1, h1, h2⟩ := r14x p r6 i a ns.length c N acc (M := M) (decide_eq_false (by omega))
    have : i = N.toNat := by omega
    subst this
    exact ⟨M, LoopR.stop h1 (by simp) (TSub.fr (l := [(6, pt r6 0), (7, pt p 0)]) h2), h⟩
  | succ k ih =>
    intro i hi M h
    obtain ⟨T1, M1, e1, e2, e3⟩ := mk_step hs h hN (by omega)
    rw [wrap_succ (by omega)] at e2
    obtain ⟨M2, f1, f2⟩ := ih (i + 1) (by omega) e3
    exact ⟨M2, LoopR.step e1 (TSub.fr (l := [(1, (.slice a ns.length c)), (2, (i64 acc)), (6, (pt r6 0)), (7, (pt p 0)), (8, (i64 N)), (9, i64 ((i + 1 : Nat) : Int))]) e2) f1, f2⟩
end Go.Proofs.YtchnlooenomfnaaGreatDoor

set_option linter.unusedVariables false
set_option linter.unusedSimpArgs false
open Go Go.Am Go.Proofs
namespace Go.Proofs.YtchnlooenomfnaaGreatDoor
set_option maxRecDepth 100000
theorem dA27 : (Tryz.prog.underlying 27).map isAggD = some true := by kernel_rfl
theorem dS27 : (Tryz.prog.info? 27).map (·.size) = some 2 := by kernel_rfl
theorem wr_small {j : Int} (h0 : 0 ≤ j) (h1 : j < 1000) : IntKind.wrap .i64 j = j := Go.Am.wrap_small h0 (by omega)
abbrev nOf (x : Int) : Int := IntKind.wrap .i64 ((1 : Int) + (modI x 9))
theorem nOf_range (x : Int) : 1 ≤ nOf x ∧ nOf x ≤ 9 := by
  have h := modI_range (x := x) (n := 9) (by decide)
  have h2 : nOf x = 1 + modI x 9 := by
    show IntKind.wrap .i64 (1 + modI x 9) = _
    exact wr_small (by omega) (by omega)
  omega
def nN (x : Int) : Nat := (nOf x).toNat
def NewB (M M' : Mem) (b el w : Nat) (cs : List Value) : Prop := M.next ≤ b ∧ M'.get b = some ⟨cs, el, w, 0, true⟩
def MkR (x : Int) (ns : List Int) (y : Int) (M : Mem) (v : Value) (M' : Mem) : Prop := ∃ bs bf, v = .agg ⟨[sli bs 0 (nN x) (nN x), sli bf 0 (nN x) (nN x)]⟩ ∧ NewB M M' bs 62 5 (irows (rowsI (nOf x) ns y (nN x))).flatten ∧ NewB M M' bf 4 1 (brows (accsI y (nN x))).flatten ∧ bs ≠ bf
def Qmk : List Value → Mem → Value → Mem → Prop := fun args M v M' => ∃ (x : Int) (L : Value) (ns : List Int) (y : Int), args = [i64 x, L, i64 y] ∧ FlatAt 1 M L (ns.map ([·])) ∧ MkR x ns y M v M'
theorem rK14 : Tryz.f16.results = #[.cell 6 27] := by kernel_rfl
theorem w14_raw (x : Int) (a : Option Addr) (c : Nat) (ns : List Int) (y : Int) (M : Mem) (b1 : Nat) (M2 : Mem) (b9 : Nat) (M10 : Mem) (M20 : Mem) (M31 : Mem) (q34s : Nat) (q34f : Nat) (M35 : Mem) : oT Tryz.prog [0] 60 Tryz.f16 q16 [i64 x, (.slice a ns.length c), i64 y] M [ttV 1 (pt b1 0) M2, ttV 3 (pt b9 0) M10, ttV 7 (i64 (modI x 9)) M20, .blk 14 [1, 2, 6, 7, 8, 9] .normal (fr [(6, (pt b1 0)), (7, (pt b9 0))]) M31, ttL 16 (.agg ⟨[(sli q34s 0 (nN x) (nN x)), (sli q34f 0 (nN x) (nN x))]⟩), ttS 18 M35] 6 = some (.ret, some (pt b1 0), M35, [.eq (aalloc Tryz.prog 27 M) (1, .val (pt b1 0), M2), .eq (aalloc Tryz.prog 27 M2) (1, .val (pt b9 0), M10), qC 40 [(i64 x), (i64 9)] M10 (i64 (modI x 9)) M20, .blk 0 (.loop (q16.loopAt 0)) Tryz.f16.ntmps [1, 2, 6, 7, 8, 9] [some (.slice a ns.length c), some (i64 y), some (pt b1 0), some (pt b9 0), some (i64 (IntKind.wrap .i64 ((1 : Int) + (modI x 9)))), some (i64 0)] M20 .normal (fr [(6, (pt b1 0)), (7, (pt b9 0))]) M31, qL 27 b9 0 M31 (.agg ⟨[(sli q34s 0 (nN x) (nN x)), (sli q34f 0 (nN x) (nN x))]⟩), qS 27 b1 0 (.agg ⟨[(sli q34s 0 (nN x) (nN x)), (sli q34f 0 (nN x) (nN x))]⟩) M31 M35]) := by kernel_rfl
theorem con16 (x : Int) (a : Option Addr) (c : Nat) (ns : List Int) (y : Int) {M : Mem} (hM : MemOk M) (hs : FlatAt 1 M (.slice a ns.length c) (ns.map ([·]))) : ∃ v M', Con Tryz.prog [] 16 Qmk [i64 x, (.slice a ns.length c), i64 y] M v M' := by
  have hN : 1 ≤ IntKind.wrap .i64 ((1 : Int) + (modI x 9)) ∧ IntKind.wrap .i64 ((1 : Int) + (modI x 9)) ≤ 9 := nOf_range x
  obtain ⟨b1, M2, eb3, em4, g5, E6, hM7⟩ := new_t hM ⟨[sln, sln], 27, 2, 0, true⟩
  have nb1 : M.next ≤ b1 := by rw [← eb3]; exact (Ext.refl M).next
  have X8 := (Ext.refl M).trans E6
  obtain ⟨b9, M10, eb11, em12, g13, E14, hM15⟩ := new_t hM7 ⟨[sln, sln], 27, 2, 0, true⟩
  have nb9 : M.next ≤ b9 := by rw [← eb11]; exact X8.next
  have db1b9 : b1 ≠ b9 := by have := Mem.lt_of_get g5; omega
  have g16 := E14.old g5
  have X17 := X8.trans E14
  obtain ⟨w18, N19, M20, p21, l22, e23, E24, hM25, Q26, G27⟩ := call_t (P := Tryz.prog) (GL := []) (f := 40) hM15 (con40 x 9 (by decide))
  have g28 := E24.old g16
  have g29 := E24.old g13
  have ew18 : w18 = (i64 (modI x 9)) := (Option.some.inj Q26.1).symm
  subst ew18
  have nxM20 : M20.next = M10.next := by rw [← e23]; exact Q26.2
  have X30 := X17.trans E24
  have hstq34 : MkD M M20 b9 b1 ⟨[sln, sln], 27, 2, 0, true⟩ (nOf x) ns y 0 := ⟨X30, hM25, nb9, Ne.symm db1b9, g28, _, _, 0, 0, g29, .inl ⟨rfl, rfl⟩, .inl ⟨rfl, rfl⟩, fun z => absurd z (Nat.lt_irrefl 0)⟩
  obtain ⟨M31, hL32, hS33⟩ := loop14 (nOf_range x) hs (nN x) 0 (by unfold nN; omega) hstq34
  obtain ⟨q34S, q34F, q34s, q34f, q34gp, q34rS, q34rF, q34d⟩ := hS33.at_
  have q34n : 0 < nN x := by have := nOf_range x; unfold nN; omega
  rcases q34rS with ⟨q340, _⟩ | ⟨rfl, _, q34s3, q34s4, q34s5, q34s6⟩
  · exact absurd q340 (by show nN x ≠ 0; omega)
  rcases q34rF with ⟨q340, _⟩ | ⟨rfl, _, q34f3, q34f4, q34f5, q34f6⟩
  · exact absurd q340 (by show nN x ≠ 0; omega)
  have h6q34 := hS33.g6
  obtain ⟨M35, q36, g37, kp38, X39, hM40, nx41⟩ := store_t (o := 0) (v := (.agg ⟨[(sli q34s 0 (nN x) (nN x)), (sli q34f 0 (nN x) (nN x))]⟩)) (new := [(sli q34s 0 (nN x) (nN x)), (sli q34f 0 (nN x) (nN x))]) hS33.ext nb1 hS33.ok dS27 h6q34 rfl rfl (Nat.zero_le _) (Nat.le_of_ble_eq_true rfl) rfl
  replace g37 : M35.get b1 = some ⟨[(sli q34s 0 (nN x) (nN x)), (sli q34f 0 (nN x) (nN x))], 27, 2, 0, true⟩ := g37
  have g42 := (kp38 _ (Ne.symm db1b9)).trans q34gp
  have hraw := w14_raw x a c ns y M b1 M2 b9 M10 M20 M31 q34s q34f M35
  have hres := aload_agg (a := ⟨b1, 0, none⟩) dA27 dS27 g37 rfl
  exact ⟨_, _, Ev.told_cell noNumP mixedP Tryz.func16 q16_ok (by kernel_rfl) rK14 (fun B => specsB_ok (hS14_17 B) (k := [(0, bone (.loop (q16.loopAt 0)) Tryz.f16.ntmps [1, 2, 6, 7, 8, 9] [some (.slice a ns.length c), some (i64 y), some (pt b1 0), some (pt b9 0), some (i64 (IntKind.wrap .i64 ((1 : Int) + (modI x 9)))), some (i64 0)] M20 .normal (fr [(6, (pt b1 0)), (7, (pt b9 0))]) M31)]) (fun p hp => by simp only [List.mem_cons, List.not_mem_nil, or_false] at hp; rcases hp with rfl <;> first | exact BlkOk.loop noNumP mixedP hL32)) (fun _ h => blksF_one h) hraw hres (hk (q_eq (by rw [← eb3, ← em4]; kernel_rfl) Nat.one_ne_zero) (hk (q_eq (by rw [← eb11, ← em12]; kernel_rfl) Nat.one_ne_zero) (hk (q_call rfl p21 l22 e23) (hk (q_blk rfl) (hk (lA ⟨dA27, dS27⟩ q34gp rfl) (hk (q_st q36) hn)))))), X39, x, _, ns, y, rfl, hs, q34s, q34f, rfl, ⟨q34s3, (kp38 _ (Ne.symm q34s5)).trans q34s6⟩, ⟨q34f3, (kp38 _ (Ne.symm q34f5)).trans q34f6⟩, q34d q34n⟩
theorem one_inj : ∀ {l1 l2 : List Int}, l1.map ([·]) = l2.map ([·]) → l1 = l2
  | [], [], _ => rfl
  | [], _ :: _, h => by simp at h
  | _ :: _, [], h => by simp at h
  | a :: l1, b :: l2, h => by
    simp only [List.map_cons, List.cons.injEq, and_true] at h
    rw [h.1, one_inj h.2]
theorem Qmk.val {x y : Int} {L v : Value} {ns : List Int} {M M' : Mem} (hs : FlatAt 1 M L (ns.map ([·]))) (hq : Qmk [i64 x, L, i64 y] M v M') : MkR x ns y M v M' := by
  obtain ⟨x', L', ns', y', h1, h2, h3⟩ := hq
  simp only [List.cons.injEq, and_true] at h1
  obtain ⟨e1, rfl, e2⟩ := h1
  have e1 : x = x' := by simpa [i64] using e1
  have e2 : y = y' := by simpa [i64] using e2
  have e4 := one_inj (hs.unique h2)
  subst e1 e2 e4
  exact h3
theorem nN_le (x : Int) : 1 ≤ nN x ∧ nN x ≤ 9 := by have := nOf_range x; unfold nN; omega
theorem mkAt {x y : Int} {ns : List Int} {M' : Mem} {bs bf : Nat} {cs cf : List Value} {w1 w2 : Nat} {q1 q2 : Bool} (h1 : M'.get bs = some ⟨cs, 62, 5, w1, q1⟩) (e1 : cs = (irows (rowsI (nOf x) ns y (nN x))).flatten) (h2 : M'.get bf = some ⟨cf, 4, 1, w2, q2⟩) (e2 : cf = (brows (accsI y (nN x))).flatten) :
    DfaAt M' (.agg ⟨[sli bs 0 (nN x) (nN x), sli bf 0 (nN x) (nN x)]⟩) (rowsI (nOf x) ns y (nN x)) (accsI y (nN x)) := by
  have hn := nN_le x
  refine ⟨_, _, rfl, ⟨?_, rowsI_wide _ _ _ _, by rw [rowsI_len]; omega⟩, ⟨?_, fun _ _ => rfl, by rw [accsI_len]; omega⟩⟩
  · rw [rowsI_len]
    exact .inr ⟨bs, 0, nN x, _, [], [], rfl, h1, by simp [e1], rfl, fun r hr => irows_wide (rowsI_wide _ _ _ _) r hr⟩
  · rw [accsI_len]
    exact .inr ⟨bf, 0, nN x, _, [], [], rfl, h2, by simp [e2, brows], rfl, fun r hr => by obtain ⟨b, _, rfl⟩ := List.mem_map.1 hr; rfl⟩
theorem cellI_range {N acc : Int} (ns : List Int) (hN : 1 ≤ N) (i j : Nat) : 0 ≤ cellI N ns acc i j ∧ cellI N ns acc i j < N := by
  unfold cellI
  split
  · exact modI_range (by omega)
  · exact modI_range (by omega)
theorem rowI_good (N : Int) (ns : List Int) (acc : Int) (i : Nat) (hN : 1 ≤ N) : badR N (rowI N ns acc i) = false := by
  have h0 := cellI_range (acc := acc) ns hN i 0
  have h1 := cellI_range (acc := acc) ns hN i 1
  have h2 := cellI_range (acc := acc) ns hN i 2
  have h3 := cellI_range (acc := acc) ns hN i 3
  have h4 := cellI_range (acc := acc) ns hN i 4
  simp [badR, rowI, noneB]
  omega
theorem mk_right (x y : Int) (ns : List Int) : chkB (rowsI (nOf x) ns y (nN x)) (accsI y (nN x)) = true := by
  have hn := nN_le x
  have hr := nOf_range x
  have e : ((nN x : Nat) : Int) = nOf x := by unfold nN; omega
  have a1 : (rowsI (nOf x) ns y (nN x)).any (badR ((nN x : Nat) : Int)) = false := by
    rw [List.any_eq_false]
    intro r hr'
    obtain ⟨k, _, rfl⟩ := List.mem_map.1 hr'
    rw [e, rowI_good _ _ _ _ hr.1]
    simp
  simp only [chkB, rowsI_len, accsI_len, a1]
  simp
  omega
end Go.Proofs.YtchnlooenomfnaaGreatDoor

set_option linter.unusedVariables false
set_option linter.unusedSimpArgs false
open Go Go.Am Go.Proofs
namespace Go.Proofs.YtchnlooenomfnaaGreatDoor
set_option maxRecDepth 100000
theorem BlkOk.gl {P : Program} {GL : List Nat} {B : Bd} {id : Nat} {g : Code → St → Option (AExit × St)} (h : BlkOk P [] B id g) : BlkOk P GL B id g :=
  ⟨h.abs, fun b s e s' hg φ a w Q hR hG hT hk => h.run b s e s' hg φ a w Q hR.noGl hG hT fun L φ' a' w' h1 h2 h3 h4 => hk L φ' a' w' h1 (h2.gl hR) h3 h4⟩
theorem Con.gl {P : Program} {GL : List Nat} {f : FuncId} {Q : List Value → Mem → Value → Mem → Prop} {args : List Value} {M : Mem} (h : ∃ v M', Con P [] f Q args M v M') : ∃ v M', Con P GL f Q args M v M' := by
  obtain ⟨v, M', h1, h2⟩ := h
  exact ⟨v, M', h1.gl, h2⟩
noncomputable abbrev oTg (P : Program) (GL : List Nat) (tb : List Nat) (n : Nat) (fn : Func) (q : QC) (args : List Value) (M : Mem) (F : List OF) (k : Nat) := (oexec P GL tb n fn.ntmps q (initT args 0 .nil) M F 0).map (fun r => (r.1.1, r.1.2.1.get k, r.1.2.2, r.2.2.2))
end Go.Proofs.YtchnlooenomfnaaGreatDoor
