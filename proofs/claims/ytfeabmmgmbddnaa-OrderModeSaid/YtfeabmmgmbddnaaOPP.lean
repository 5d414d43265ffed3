/-
  Package order: each of its laws for every argument; no conditions. The last text states which.
-/
import Derived.Test.YtfeabmmgmbddnaaOQ5
import Derived.Test.YtfeabmmgmbddnaaOPL
import Derived.Test.YtfeabmmgmbddnaaGAmBk
open Go Go.Am Go.Proofs
namespace Go.Proofs.Ytfeabmmgmbddnaa
set_option maxRecDepth 100000
set_option linter.unusedVariables false
set_option linter.unusedSimpArgs false
theorem linksL_len (a : AdjM) (n : Nat) : (linksL a n).length = n := by simp [linksL]
theorem blksF_three {id k j m : Nat} {g g' g2 : Code → St → Option (AExit × St)} (h : elemN id [k, j, m] = false) : blksF [(k, g), (j, g'), (m, g2)] id = none := by
  have ne : ∀ x : Nat, Nat.beq x id = false → Nat.beq id x = false := fun x hx => by
    cases hb : Nat.beq id x
    · rfl
    · rw [Nat.eq_of_beq_eq_true hb] at hx
      simp at hx
  have h1 : Nat.beq k id = false ∧ elemN id [j, m] = false := by
    simp only [elemN, Bool.or_false, Bool.or_eq_false_iff] at h ⊢
    exact h
  unfold blksF
  rw [ne k h1.1]
  exact blksF_two h1.2
theorem erowL (l : List E4) : ((l.map eRow).flatten).length = l.length * 4 := by
  induction l with
  | nil => rfl
  | cons e l ih => simp only [List.map_cons, List.flatten_cons, List.length_append, ih, List.length_cons]; simp [eRow]; omega
theorem spliceF : ∀ (a b : List Value) (o : Nat) (v : List Value), splice (a ++ b) (a.length + o) v = a ++ splice b o v
  | [], b, o, v => by simp
  | x :: a, b, o, [] => by
    cases hb : a.length + 1 + o <;> simp [splice]
    all_goals (cases b <;> simp [splice])
  | x :: a, b, o, u :: v => by
    rw [List.cons_append, List.length_cons, show a.length + 1 + o = (a.length + o) + 1 by omega]
    simp only [splice, List.cons_append]
    rw [spliceF a b o (u :: v)]
def OwnE (nx : Nat) (l : List E4) (S : Value) (M : Mem) : Prop := (S = sln ∧ l = []) ∨ ∃ b, S = sli b 0 l.length l.length ∧ 0 < l.length ∧ nx ≤ b ∧ M.get b = some ⟨(l.map eRow).flatten, 37, 4, 0, true⟩
def pMkO (x : Nat × List E4) (nx : Nat) (v : Value) (M : Mem) : Prop := ∃ S, v = .agg ⟨[i64 ((x.1 : Nat) : Int), S]⟩ ∧ OwnE nx x.2 S M
instance : AQ pMkO := ⟨fun hE ⟨S, h1, h2⟩ => ⟨S, h1, h2.imp id fun ⟨b, q1, q2, q3, q4⟩ => ⟨b, q1, q2, q3, hE _ _ q4⟩⟩⟩
theorem ownE_of {M0 M M' : Mem} {S : Value} {l : List E4} {p r6 : Nat} (h : AccC 37 4 M0 [p, r6] l.length ((l.map eRow).flatten) S M) (hk : ∀ id, id ≠ r6 → M'.get id = M.get id) : OwnE M0.next l S M' := by
  rcases h with ⟨rfl, h0, _⟩ | ⟨b, rfl, h2, _, h3, h5, h6⟩
  · exact .inl ⟨rfl, List.eq_nil_of_length_eq_zero h0⟩
  · exact .inr ⟨b, rfl, h2, h3, (hk b (fun e => h5 (by simp [e]))).trans h6⟩
theorem accOf {M0 M : Mem} {S : Value} {l : List E4} {nx : Nat} (h : OwnE nx l S M) (hn : M0.next ≤ nx) : AccC 37 4 M0 [] l.length ((l.map eRow).flatten) S M := by
  rcases h with ⟨rfl, rfl⟩ | ⟨b, rfl, h2, h3, h4⟩
  · exact .inl ⟨rfl, rfl, rfl⟩
  · exact .inr ⟨b, rfl, h2, erowL l, by omega, by simp, h4⟩
theorem accE {M0 M : Mem} {S : Value} {l : List E4} {bad : List Nat} {n : Nat} {cs : List Value} (h : AccC 37 4 M0 bad n cs S M) (hn : l.length = n) (hc : cs = (l.map eRow).flatten) (hl : n ≤ 9223372036854775807) : pEdges l S M := by
  subst hc hn
  rcases h with ⟨rfl, h0, _⟩ | ⟨b, rfl, _, _, _, _, h6⟩
  · rw [List.eq_nil_of_length_eq_zero h0]; exact GRowsAt.nil none
  · exact GRowsAt.of_blk' h6 rfl rfl (fun _ _ => rfl) hl
theorem acc_but {el : TypeId} {w n x : Nat} {M0 M M' : Mem} {bad : List Nat} {cs : List Value} {S : Value} (h : AccC el w M0 bad n cs S M) (hx : x ∈ bad) (hk : ∀ id k, M.get id = some k → id ≠ x → M'.get id = some k) : AccC el w M0 bad n cs S M' := by
  rcases h with h | ⟨b, h1, h2, h3, h4, h5, h6⟩
  · exact .inl h
  · exact .inr ⟨b, h1, h2, h3, h4, h5, hk _ _ h6 (fun e => h5 (e ▸ hx))⟩
def md2 (e : E4) : E4 := ⟨e.f, e.t, 2, e.c⟩
def mdTo (l : List E4) (i : Nat) : List E4 := (l.take i).map md2 ++ l.drop i
theorem mdTo_all (l : List E4) : mdTo l l.length = l.map md2 := by simp [mdTo]
theorem mdTo_step {l : List E4} {i : Nat} (hi : i < l.length) : splice (((mdTo l i).map eRow).flatten) (i * 4 + 2) [i64 2] = ((mdTo l (i + 1)).map eRow).flatten := by
  have e1 : mdTo l i = (l.take i).map md2 ++ l[i] :: l.drop (i + 1) := by unfold mdTo; rw [List.drop_eq_getElem_cons hi]
  have e2 : mdTo l (i + 1) = (l.take i).map md2 ++ md2 l[i] :: l.drop (i + 1) := by unfold mdTo; rw [List.take_succ_eq_append_getElem hi, List.map_append, List.append_assoc]; rfl
  have hA : ((((l.take i).map md2).map eRow).flatten).length = i * 4 := by rw [erowL, List.length_map, List.length_take, Nat.min_eq_left (Nat.le_of_lt hi)]
  rw [e1, e2, List.map_append, List.map_append, List.flatten_append, List.flatten_append, ← hA, spliceF]
  rfl
def inc (v : Int) (e : E4) : Bool := e.f == v || e.t == v
def hadT (l : List E4) (n : Nat) : List Bool := (List.range n).map fun v => l.any (inc ((v : Nat) : Int))
theorem hadT_nil (n : Nat) : (hadT [] n).map Value.bool = List.replicate n (.bool false) := by
  unfold hadT
  rw [List.map_map]
  exact List.eq_replicate_iff.2 ⟨by simp, by simp⟩
theorem hadT_len (l : List E4) (n : Nat) : (hadT l n).length = n := by simp [hadT]
theorem had_step {l : List E4} {n : Nat} {e : E4} (hf : 0 ≤ e.f ∧ e.f < n) (ht : 0 ≤ e.t ∧ e.t < n) : ((hadT l n).set e.f.toNat true).set e.t.toNat true = hadT (l ++ [e]) n := by
  apply List.ext_getElem
  · simp [hadT]
  · intro v h1 h2
    have hv : v < n := by simpa [hadT] using h2
    rw [List.getElem_set, List.getElem_set]
    simp only [hadT, List.getElem_map, List.getElem_range, List.any_append, List.any_cons, List.any_nil, Bool.or_false, inc]
    by_cases a : e.t.toNat = v
    · have : e.t = ((v : Nat) : Int) := by omega
      simp [a, this]
    · have a' : ¬ e.t = ((v : Nat) : Int) := by omega
      by_cases b : e.f.toNat = v
      · have : e.f = ((v : Nat) : Int) := by omega
        simp [a, b, this]
      · have b' : ¬ e.f = ((v : Nat) : Int) := by omega
        simp [a, b, a', b']
theorem had_splice {l : List E4} {n : Nat} {e : E4} (hf : 0 ≤ e.f ∧ e.f < n) (ht : 0 ≤ e.t ∧ e.t < n) : splice (splice ((hadT l n).map Value.bool) e.f.toNat [.bool true]) e.t.toNat [.bool true] = (hadT (l ++ [e]) n).map Value.bool := by
  have hl := hadT_len l n
  rw [splice_one _ e.f.toNat _ (by rw [List.length_map]; omega), splice_one _ e.t.toNat _ (by rw [List.length_set, List.length_map]; omega), ← had_step hf ht, List.map_set, List.map_set]
theorem mode_mods {l : List E4} (hl : ∀ e ∈ l, e.m = 2) (v : Int) : ∀ i, i ≤ l.length → refModes l v i = if (l.take i).any (inc v) = true then 4 else 0
  | 0, _ => by simp [refModes]
  | i + 1, h => by
    have he : l[i]? = some l[i] := List.getElem?_eq_getElem (by omega)
    rw [refModes_succ v he, mode_mods hl v i (by omega), List.take_succ_eq_append_getElem (by omega), List.any_append, hl _ (List.getElem_mem _)]
    have k1 : orI 4 (setM 2) = 4 := by decide +kernel
    have k2 : orI 0 (setM 2) = 4 := by decide +kernel
    have e1 : inc v l[i] = decide (l[i].f = v ∨ l[i].t = v) := by unfold inc; rw [Bool.eq_iff_iff]; simp
    have e2 : [l[i]].any (inc v) = decide (l[i].f = v ∨ l[i].t = v) := by rw [← e1]; simp
    rw [e2]
    by_cases hh : l[i].f = v ∨ l[i].t = v
    · rw [if_pos hh, decide_eq_true hh, Bool.or_true]
      cases (l.take i).any (inc v) with
      | true => simpa using k1
      | false => simpa using k2
    · rw [if_neg hh, decide_eq_false hh, Bool.or_false]
theorem mode_link {l : List E4} (hl : ∀ e ∈ l, e.m = 2) (a b v : Int) : linkR (l ++ [⟨a, b, 4, 0⟩]) v = (l.any (inc v) && (v == a || v == b)) := by
  unfold linkR
  have e1 : refModes (l ++ [⟨a, b, 4, 0⟩]) v l.length = refModes l v l.length := by unfold refModes; rw [List.take_left', List.take_length]; rfl
  have e2 := mode_mods hl v l.length (Nat.le_refl _)
  rw [List.take_length] at e2
  rw [List.length_append, List.length_singleton, refModes_succ v (e := ⟨a, b, 4, 0⟩) (by simp), e1, e2]
  by_cases h : a = v ∨ b = v
  · have h2 : (v == a || v == b) = true := by rcases h with rfl | rfl <;> simp
    rw [if_pos h, h2]
    cases l.any (inc v)
    · show decide (sumB (orI 0 (setM 4)) ≥ (2 : Int)) = false
      decide +kernel
    · show decide (sumB (orI 4 (setM 4)) ≥ (2 : Int)) = true
      decide +kernel
  · have h2 : (v == a || v == b) = false := by
      simp only [not_or] at h
      rw [Bool.or_eq_false_iff]
      exact ⟨beq_false_of_ne (Ne.symm h.1), beq_false_of_ne (Ne.symm h.2)⟩
    rw [if_neg h, h2]
    cases l.any (inc v) <;> decide +kernel
def modL (l : List E4) (a b : Int) : List E4 := l.map md2 ++ [⟨a, b, 4, 0⟩]
theorem modL_len (l : List E4) (a b : Int) : (modL l a b).length = l.length + 1 := by simp [modL]
theorem modL_chk {n : Int} {l : List E4} {a b : Int} (h : chkN n l = true) (hl : l.length ≤ 40) (ha : 0 ≤ a ∧ a < n) (hb : 0 ≤ b ∧ b < n) : chkN n (modL l a b) = true := by
  unfold chkN at h ⊢
  rw [modL_len]
  simp only [Bool.and_eq_true, List.all_eq_true, Bool.not_eq_true', Bool.or_eq_false_iff, Bool.not_eq_false'] at h ⊢
  refine ⟨⟨h.1.1, decide_eq_false (by omega)⟩, fun e he => ?_⟩
  rcases List.mem_append.1 he with h1 | h1
  · obtain ⟨d, hd, rfl⟩ := List.mem_map.1 h1
    have hf := h.2 d hd
    show (belB d.f n && belB d.t n && belB 2 5 && decide (d.c ≥ (0 : Int)) && decide (d.c ≤ (2147483647 : Int))) = true
    unfold fitE at hf
    unfold belB at hf ⊢
    simp only [Bool.and_eq_true, decide_eq_true_eq] at hf ⊢
    omega
  · simp only [List.mem_singleton] at h1
    subst h1
    show (belB a n && belB b n && belB 4 5 && decide ((0 : Int) ≥ (0 : Int)) && decide ((0 : Int) ≤ (2147483647 : Int))) = true
    unfold belB
    simp only [Bool.and_eq_true, decide_eq_true_eq]
    omega
theorem mod_link {l : List E4} {n : Nat} {a b : Int} (h : chkN ((n : Nat) : Int) (modL l a b) = true) {i : Nat} (hi : i < n) : (linksL (adjM n (modL l a b)) n)[i]? = some ((l.map md2).any (inc ((i : Nat) : Int)) && (((i : Nat) : Int) == a || ((i : Nat) : Int) == b)) := by
  rw [links_eq h]
  unfold linksR modL
  rw [List.getElem?_map, List.getElem?_range hi]
  exact congrArg some (mode_link (fun e he => by obtain ⟨d, _, rfl⟩ := List.mem_map.1 he; rfl) a b _)
theorem order_len {n : Nat} {l : List E4} (h : chkN ((n : Nat) : Int) l = true) : (orderL n l).length ≤ n := by
  unfold orderL
  rw [sortedI_len (okA_adjM h)]
  exact othersTo_len _ n
theorem w9b_raw (size : Int) (ans : Option Addr) (cns : Nat) (ns : List Int) (md : Int) (M : Mem) (b1 : Nat) (M2 : Mem) (M12 : Mem) (b22 : Nat) (M23 : Mem) (M32 : Mem) (S40 : Value) (M43 : Mem) (M48 : Mem) : oT Try.prog [0] 60 Try.f9 q9 [(i64 size), (.slice ans ns.length cns), (i64 md)] M [ttV 1 (pt b1 0) M2, ttV 5 (i64 (modI size 12)) M12, ttV 11 (pt b22 0) M23, ttS 13 M32, .blk 16 [1, 2, 6, 7, 8] .normal (fr [(6, (pt b1 0)), (7, (pt b22 0))]) M43, ttL 18 (.agg ⟨[(i64 (((nMk size : Nat) : Int))), S40]⟩), ttS 20 M48] 6 = some (.ret, some (pt b1 0), M48, [.eq (aalloc Try.prog 26 M) (1, .val (pt b1 0), M2), qC 19 [(i64 size), (i64 12)] M2 (i64 (modI size 12)) M12, .eq (aalloc Try.prog 26 M12) (1, .val (pt b22 0), M23), qS 26 b22 0 (.agg ⟨[(i64 (IntKind.wrap .i64 ((1 : Int) + (modI size 12)))), sln]⟩) M23 M32, .blk 0 (.loop (q9.loopAt 0)) Try.f9.ntmps [1, 2, 6, 7, 8] [some (.slice ans ns.length cns), some (i64 md), some (pt b1 0), some (pt b22 0), some (i64 0)] M32 .normal (fr [(6, (pt b1 0)), (7, (pt b22 0))]) M43, qL 26 b22 0 M43 (.agg ⟨[(i64 (((nMk size : Nat) : Int))), S40]⟩), qS 26 b1 0 (.agg ⟨[(i64 (((nMk size : Nat) : Int))), S40]⟩) M43 M48]) := by kernel_rfl
theorem w9b (size : Int) (ans : Option Addr) (cns : Nat) (ns : List Int) (md : Int) {M : Mem} (hM : MemOk M) (hns : pInts ns (.slice ans ns.length cns) M) : ∃ v_ M', Ev Try.prog [] 9 [(i64 size), (.slice ans ns.length cns), (i64 md)] M v_ M' ∧ Ext M M' ∧ MemOk M' ∧ pMkO (nMk size, mkL size ns md) M.next v_ M' := by
  obtain ⟨b1, M2, eb3, em4, g5, E6, hM7⟩ := new_t hM ⟨[(i64 0), sln], 26, 2, 0, true⟩
  have nb1 : M.next ≤ b1 := by rw [← eb3]; exact (Ext.refl M).next
  have X9 := (Ext.refl M).trans E6
  obtain ⟨w10, N11, M12, p13, l14, e15, E16, hM17, F18⟩ := call_fc (x := (size, 12)) hM7 con19 (⟨⟨_, _, rfl, rfl, rfl⟩, rfl⟩)
  have g20 := E16.old g5
  have ew10 : w10 = (i64 (modI size 12)) := F18
  subst ew10
  have X21 := X9.trans E16
  obtain ⟨b22, M23, eb24, em25, g26, E27, hM28⟩ := new_t hM17 ⟨[(i64 0), sln], 26, 2, 0, true⟩
  have nb22 : M.next ≤ b22 := by rw [← eb24]; exact X21.next
  have db1b22 : b1 ≠ b22 := by have := Mem.lt_of_get g20; omega
  have g29 := E27.old g20
  have X31 := X21.trans E27
  obtain ⟨M32, q33, g34, kp35, X36, hM37, nx38⟩ := store_t (o := 0) (v := (.agg ⟨[(i64 (IntKind.wrap .i64 ((1 : Int) + (modI size 12)))), sln]⟩)) (new := [(i64 (IntKind.wrap .i64 ((1 : Int) + (modI size 12)))), sln]) X31 nb22 hM28 dS26 g26 rfl rfl (Nat.zero_le _) (Nat.le_of_ble_eq_true rfl) rfl
  replace g34 : M32.get b22 = some ⟨[(i64 (IntKind.wrap .i64 ((1 : Int) + (modI size 12)))), sln], 26, 2, 0, true⟩ := g34
  have g39 := (kp35 _ db1b22).trans g29
  obtain ⟨M43, hL44, X45, hM46, gq47, S40, gs42, A41⟩ := loop9 (md := md) hM37 X36 hns nb22 (N := ((nMk size : Nat) : Int)) (by rw [← nMk_eq]; exact g34) g39 (Ne.symm db1b22) (by have := nMk_range size; simp only [Bool.and_eq_true, decide_eq_true_eq]; omega)
  have hcS : isCell S40 = true := AccC.isCell A41
  have db22b1 := (Ne.symm db1b22)
  obtain ⟨M48, q49, g50, kp51, X52, hM53, nx54⟩ := store_t (o := 0) (v := (.agg ⟨[(i64 (((nMk size : Nat) : Int))), S40]⟩)) (new := [(i64 (((nMk size : Nat) : Int))), S40]) X45 nb1 hM46 dS26 gq47 rfl (by show (isCell (i64 _) && (isCell S40 && true)) = true; rw [hcS]; rfl) (Nat.zero_le _) (Nat.le_of_ble_eq_true rfl) rfl
  replace g50 : M48.get b1 = some ⟨[(i64 (((nMk size : Nat) : Int))), S40], 26, 2, 0, true⟩ := g50
  have hlen := hns.len
  have hraw := w9b_raw size ans cns ns md M  b1 M2 M12 b22 M23 M32 S40 M43 M48
  exact ⟨(.agg ⟨[(i64 (((nMk size : Nat) : Int))), S40]⟩), M48, Ev.told_cell noNumP mixedP Try.func9 q9_ok (by kernel_rfl) rK9 (fun B => specsB_ok (hS9_19 B) (k := [(0, bone (.loop (q9.loopAt 0)) Try.f9.ntmps [1, 2, 6, 7, 8] [some (.slice ans ns.length cns), some (i64 md), some (pt b1 0), some (pt b22 0), some (i64 0)] M32 .normal (fr [(6, (pt b1 0)), (7, (pt b22 0))]) M43)]) (fun p hp => by simp only [List.mem_cons, List.not_mem_nil, or_false] at hp; rcases hp with rfl <;> first | exact BlkOk.loop noNumP mixedP hL44)) (fun _ h => blksF_one h) hraw (aload_agg (a := ⟨b1, 0, none⟩) dA26 dS26 g50 rfl) (hk (q_eq (by rw [← eb3, ← em4]; kernel_rfl) Nat.one_ne_zero) (hk (q_call rfl p13 l14 e15) (hk (q_eq (by rw [← eb24, ← em25]; kernel_rfl) Nat.one_ne_zero) (hk (q_st q33) (hk (q_blk rfl) (hk (lA ⟨dA26, dS26⟩ gs42 rfl) (hk (q_st q49) hn))))))), X52, hM53, ⟨_, rfl, ownE_of A41 kp51⟩⟩
abbrev Q9b := FC (as3 pI pInts pI) pMkO (fun x : Int × List Int × Int => (nMk x.1, mkL x.1 x.2.1 x.2.2))
theorem con9b {x : Int × List Int × Int} {lv : List Value} {M : Mem} (hM : MemOk M) (h : (as3 pI pInts pI) x lv M) : ∃ v M', Con Try.prog [] 9 Q9b lv M v M' := by
  refine FC.con h ?_
  obtain ⟨g0, g1, g2, rfl, k0, k1, k2⟩ := h
  obtain ⟨size, ns, md⟩ := x
  obtain rfl := k0
  obtain rfl := k2
  obtain ⟨a, c, rfl⟩ := GRowsAt.form k1
  obtain ⟨v, M', h1, h2, _, h3⟩ := w9b size a c ns md hM k1
  exact ⟨v, M', h1, h2, h3⟩
theorem r7a_raw (q b k i n : Nat) (a2 a3 : Int) (cr : List Value) (M : Mem) (M1 : Mem) : oR Try.prog [] 60 Try.f7 (q7.loopAt 0) [(2, (i64 a2)), (3, (i64 a3)), (9, (pt q 0)), (10, (i64 (((i : Nat) : Int))))] M [ttL 5 (sli b 0 k k), ttT 10, ttL 14 (sli b 0 k k), ttT 18, ttS 22 M1] [2, 3, 9, 10] = some (.normal, [some (i64 a2), some (i64 a3), some (pt q 0), some (i64 (IntKind.wrap .i64 ((((i : Nat) : Int)) + (1 : Int))))], M1, [qL 24 q 1 M (sli b 0 k k), qT (decide ((((i : Nat) : Int)) < (((k : Nat) : Int)))), qL 24 q 1 M (sli b 0 k k), .q (.inb (((i : Nat) : Int)) k) (ansB true), qS 3 b (0 + (((i : Nat) : Int) : Int).toNat * 4 + 2) (i64 2) M M1]) := by kernel_rfl
theorem r7a (q b k i n : Nat) (a2 a3 : Int) (cr : List Value) {M M0 : Mem} (hM : MemOk M) (X0 : Ext M0 M) (gq : M.get q = some ⟨[i64 ((n : Nat) : Int), (sli b 0 k k)], 26, 2, 0, true⟩) (nb : M0.next ≤ b) (gb : M.get b = some ⟨cr, 37, 4, 0, true⟩) (dqb : q ≠ b) (cc0 : (decide ((((i : Nat) : Int)) < (((k : Nat) : Int)))) = true) (hof0 : 0 + (((i : Nat) : Int) : Int).toNat * 4 + 2 + 1 ≤ (cr).length) : ∃ T1 M', Rd Try.prog [] (q7.loopAt 0) Try.f7.ntmps (fr [(2, (i64 a2)), (3, (i64 a3)), (9, (pt q 0)), (10, (i64 (((i : Nat) : Int))))]) M .normal T1 M' ∧ [2, 3, 9, 10].map T1.get = [some (i64 a2), some (i64 a3), some (pt q 0), some (i64 (IntKind.wrap .i64 ((((i : Nat) : Int)) + (1 : Int))))] ∧ Ext M0 M' ∧ MemOk M' ∧ M'.get q = some ⟨[(i64 (((n : Nat) : Int))), (sli b 0 k k)], 26, 2, 0, true⟩ ∧ M'.get b = some ⟨(splice cr (0 + (((i : Nat) : Int) : Int).toNat * 4 + 2) [(i64 2)]), 37, 4, 0, true⟩ := by
  obtain ⟨M1, q2, g3, kp4, X5, hM6, nx7⟩ := store_t (o := 0 + (((i : Nat) : Int) : Int).toNat * 4 + 2) (v := (i64 2)) (new := splice cr (0 + (((i : Nat) : Int) : Int).toNat * 4 + 2) [(i64 2)]) X0 nb hM dS3 gb rfl rfl (Nat.zero_le _) hof0 rfl
  replace g3 : M1.get b = some ⟨splice cr (0 + (((i : Nat) : Int) : Int).toNat * 4 + 2) [(i64 2)], 37, 4, 0, true⟩ := g3
  have g8 := (kp4 _ dqb).trans gq
  have hraw := r7a_raw q b k i n a2 a3 cr M  M1
  obtain ⟨T1, h1, h2⟩ := Rd.told noNumP mixedP (specs_none Try.prog) (fun _ _ => rfl) hraw (hk (lC dC24 gq rfl) (hk (bT cc0) (hk (lC dC24 gq rfl) (hk (q_inb (by omega) (by simp at cc0; omega)) (hk (q_st q2) hn)))))
  exact ⟨T1, M1, h1, h2, X5, hM6, g8, g3⟩
theorem r7ax_raw (q k ce i n : Nat) (ae : Option Addr) (a2 a3 : Int) (M : Mem)  : oR Try.prog [] 60 Try.f7 (q7.loopAt 0) [(2, (i64 a2)), (3, (i64 a3)), (9, (pt q 0)), (10, (i64 (((i : Nat) : Int))))] M [ttL 5 (.slice ae k ce), ttT 7, ttF 10] [2, 3, 9] = some ((.exit 0), [some (i64 a2), some (i64 a3), some (pt q 0)], M, [qL 24 q 1 M (.slice ae k ce), .ln ae k ce, qF (decide ((((i : Nat) : Int)) < (((k : Nat) : Int))))]) := by kernel_rfl
theorem r7ax (q k ce i n : Nat) (ae : Option Addr) (a2 a3 : Int) {M : Mem} (hln : ae.isNone = true → k = 0 ∧ ce = 0) (gq : M.get q = some ⟨[i64 ((n : Nat) : Int), (.slice ae k ce)], 26, 2, 0, true⟩) (cc0 : (decide ((((i : Nat) : Int)) < (((k : Nat) : Int)))) = false) : ∃ T1, Rd Try.prog [] (q7.loopAt 0) Try.f7.ntmps (fr [(2, (i64 a2)), (3, (i64 a3)), (9, (pt q 0)), (10, (i64 (((i : Nat) : Int))))]) M (.exit 0) T1 M ∧ [2, 3, 9].map T1.get = [some (i64 a2), some (i64 a3), some (pt q 0)] := by
  have hraw := r7ax_raw q k ce i n ae a2 a3 M  
  obtain ⟨T1, h1, h2⟩ := Rd.told noNumP mixedP (specs_none Try.prog) (fun _ _ => rfl) hraw (hk (lC dC24 gq rfl) (hk (lN hln) (hk (bF cc0) hn)))
  exact ⟨T1, h1, h2⟩
theorem loop7a {q n : Nat} {a2 a3 : Int} {S : Value} {l : List E4} {M0 M : Mem} (hM : MemOk M) (X : Ext M0 M) (gq : M.get q = some ⟨[i64 ((n : Nat) : Int), S], 26, 2, 0, true⟩) (hA : AccC 37 4 M0 [q] l.length ((l.map eRow).flatten) S M) (hl : l.length ≤ 400) :
    ∃ M', LoopR Try.prog [] (q7.loopAt 0) Try.f7.ntmps (fr [(2, i64 a2), (3, i64 a3), (9, pt q 0), (10, i64 ((0 : Nat) : Int))]) M (.exit 0) (fr [(2, i64 a2), (3, i64 a3), (9, pt q 0)]) M' ∧ Ext M0 M' ∧ MemOk M' ∧ M'.get q = some ⟨[i64 ((n : Nat) : Int), S], 26, 2, 0, true⟩ ∧ AccC 37 4 M0 [q] l.length (((l.map md2).map eRow).flatten) S M' := by
  rcases hA with ⟨rfl, h0, _⟩ | ⟨b, rfl, h2, h3, h4, h5, h6⟩
  · obtain rfl := List.eq_nil_of_length_eq_zero h0
    obtain ⟨_, M', h1, h2, h3, h4⟩ := LoopR.for (P := Try.prog) (GL := []) (b := q7.loopAt 0) (nt := Try.f7.ntmps) (id := 0) (σ := Unit) (n := 0) (Inv := fun _ _ M1 => Ext M0 M1 ∧ MemOk M1 ∧ M1.get q = some ⟨[i64 ((n : Nat) : Int), sln], 26, 2, 0, true⟩)
      (F := fun i _ => [(2, i64 a2), (3, i64 a3), (9, pt q 0), (10, i64 ((i : Nat) : Int))]) (O := fun _ => [(2, i64 a2), (3, i64 a3), (9, pt q 0)])
      (by rintro i _ M1 hi; omega)
      (by
        rintro _ M1 ⟨X1, hM1, hg⟩
        exact r7ax q 0 0 0 n none a2 a3 (fun _ => ⟨rfl, rfl⟩) hg (decide_eq_false (by omega)))
      0 0 (by omega) (s := ()) (M := M) ⟨X, hM, gq⟩
    exact ⟨M', h1, h2, h3, h4, .inl ⟨rfl, rfl, rfl⟩⟩
  · have dqb : q ≠ b := fun e => h5 (by simp [e])
    obtain ⟨_, M', k1, k2, k3, k4, k5⟩ := LoopR.for (P := Try.prog) (GL := []) (b := q7.loopAt 0) (nt := Try.f7.ntmps) (id := 0) (σ := Unit) (n := l.length) (Inv := fun i _ M1 => Ext M0 M1 ∧ MemOk M1 ∧ M1.get q = some ⟨[i64 ((n : Nat) : Int), sli b 0 l.length l.length], 26, 2, 0, true⟩ ∧ M1.get b = some ⟨((mdTo l i).map eRow).flatten, 37, 4, 0, true⟩)
      (F := fun i _ => [(2, i64 a2), (3, i64 a3), (9, pt q 0), (10, i64 ((i : Nat) : Int))]) (O := fun _ => [(2, i64 a2), (3, i64 a3), (9, pt q 0)])
      (by
        rintro i _ M1 hi ⟨X1, hM1, hg, hb⟩
        have hlm : (mdTo l i).length = l.length := by simp [mdTo]; omega
        obtain ⟨T1, M2, h1, h2, h3, h4, h5, h6⟩ := r7a q b l.length i n a2 a3 _ hM1 X1 hg (by assumption) hb dqb (decide_eq_true (by omega)) (by rw [erowL, hlm, Int.toNat_natCast]; omega)
        rw [wrap_succ (by omega)] at h2
        refine ⟨(), T1, M2, h1, h2, h3, h4, h5, ?_⟩
        rw [h6, ← mdTo_step hi, Int.toNat_natCast, Nat.zero_add])
      (by
        rintro _ M1 ⟨X1, hM1, hg, _⟩
        exact r7ax q l.length l.length l.length n (some ⟨b, 0, none⟩) a2 a3 (fun h => by cases h) hg (decide_eq_false (by omega)))
      l.length 0 (by omega) (s := ()) (M := M) ⟨X, hM, gq, by simpa [mdTo] using h6⟩
    rw [mdTo_all] at k5
    exact ⟨M', k1, k2, k3, k4, .inr ⟨b, rfl, h2, by rw [erowL, List.length_map], h4, h5, k5⟩⟩
theorem r7b_raw (q h eb eo k ce i n : Nat) (a b : Int) (e : E4) (cr : List Value) (M : Mem) (M1 : Mem) (M9 : Mem) : oR Try.prog [] 60 Try.f7 (q7.loopAt 2) [(9, (pt q 0)), (11, (i64 a)), (12, (i64 b)), (13, (sli h 0 n (n + 1))), (14, (i64 (((i : Nat) : Int))))] M [ttL 5 (sli eb eo k ce), ttT 10, ttL 16 (sli eb eo k ce), ttT 20, ttL 24 (i64 e.f), ttL 30 (sli eb eo k ce), ttT 34, ttL 38 (i64 e.t), ttT 40, ttS 42 M1, ttT 44, ttS 46 M9] [9, 11, 12, 13, 14] = some (.normal, [some (pt q 0), some (i64 a), some (i64 b), some (sli h 0 n (n + 1)), some (i64 (IntKind.wrap .i64 ((((i : Nat) : Int)) + (1 : Int))))], M9, [qL 24 q 1 M (sli eb eo k ce), qT (decide ((((i : Nat) : Int)) < (((k : Nat) : Int)))), qL 24 q 1 M (sli eb eo k ce), .q (.inb (((i : Nat) : Int)) k) (ansB true), qL 3 eb (eo + (((i : Nat) : Int) : Int).toNat * 4) M (i64 e.f), qL 24 q 1 M (sli eb eo k ce), .q (.inb (((i : Nat) : Int)) k) (ansB true), qL 3 eb (eo + (((i : Nat) : Int) : Int).toNat * 4 + 1) M (i64 e.t), .q (.inb e.f n) (ansB true), qS 4 h (0 + (e.f : Int).toNat * 1) (.bool true) M M1, .q (.inb e.t n) (ansB true), qS 4 h (0 + (e.t : Int).toNat * 1) (.bool true) M1 M9]) := by kernel_rfl
theorem r7b (q h eb eo k ce i n : Nat) (a b : Int) (e : E4) (cr : List Value) {M M0 : Mem} (hM : MemOk M) (X0 : Ext M0 M) (gq : M.get q = some ⟨[i64 ((n : Nat) : Int), (sli eb eo k ce)], 26, 2, 0, true⟩) (nh : M0.next ≤ h) (gh : M.get h = some ⟨cr, 4, 1, 0, true⟩) (dqh : q ≠ h) (cc0 : (decide ((((i : Nat) : Int)) < (((k : Nat) : Int)))) = true) (hld0 : aload Try.prog 3 ⟨eb, eo + (((i : Nat) : Int) : Int).toNat * 4, none⟩ M0 = some (i64 e.f)) (hld1 : aload Try.prog 3 ⟨eb, eo + (((i : Nat) : Int) : Int).toNat * 4 + 1, none⟩ M0 = some (i64 e.t)) (hi2 : 0 ≤ (e.f : Int) ∧ (e.f : Int) < n) (hof3 : 0 + (e.f : Int).toNat * 1 + 1 ≤ (cr).length) (hi4 : 0 ≤ (e.t : Int) ∧ (e.t : Int) < n) (hof5 : 0 + (e.t : Int).toNat * 1 + 1 ≤ ((splice cr (0 + (e.f : Int).toNat * 1) [(.bool true)])).length) : ∃ T1 M', Rd Try.prog [] (q7.loopAt 2) Try.f7.ntmps (fr [(9, (pt q 0)), (11, (i64 a)), (12, (i64 b)), (13, (sli h 0 n (n + 1))), (14, (i64 (((i : Nat) : Int))))]) M .normal T1 M' ∧ [9, 11, 12, 13, 14].map T1.get = [some (pt q 0), some (i64 a), some (i64 b), some (sli h 0 n (n + 1)), some (i64 (IntKind.wrap .i64 ((((i : Nat) : Int)) + (1 : Int))))] ∧ Ext M0 M' ∧ MemOk M' ∧ M'.get q = some ⟨[(i64 (((n : Nat) : Int))), (sli eb eo k ce)], 26, 2, 0, true⟩ ∧ M'.get h = some ⟨(splice (splice cr (0 + (e.f : Int).toNat * 1) [(.bool true)]) (0 + (e.t : Int).toNat * 1) [(.bool true)]), 4, 1, 0, true⟩ ∧ ∀ id k, M.get id = some k → id ≠ q → id ≠ h → M'.get id = some k := by
  obtain ⟨M1, q2, g3, kp4, X5, hM6, nx7⟩ := store_t (o := 0 + (e.f : Int).toNat * 1) (v := (.bool true)) (new := splice cr (0 + (e.f : Int).toNat * 1) [(.bool true)]) X0 nh hM dS4 gh rfl rfl (Nat.zero_le _) hof3 rfl
  replace g3 : M1.get h = some ⟨splice cr (0 + (e.f : Int).toNat * 1) [(.bool true)], 4, 1, 0, true⟩ := g3
  have g8 := (kp4 _ dqh).trans gq
  obtain ⟨M9, q10, g11, kp12, X13, hM14, nx15⟩ := store_t (o := 0 + (e.t : Int).toNat * 1) (v := (.bool true)) (new := splice (splice cr (0 + (e.f : Int).toNat * 1) [(.bool true)]) (0 + (e.t : Int).toNat * 1) [(.bool true)]) X5 nh hM6 dS4 g3 rfl rfl (Nat.zero_le _) hof5 rfl
  replace g11 : M9.get h = some ⟨splice (splice cr (0 + (e.f : Int).toNat * 1) [(.bool true)]) (0 + (e.t : Int).toNat * 1) [(.bool true)], 4, 1, 0, true⟩ := g11
  have g16 := (kp12 _ dqh).trans g8
  have hraw := r7b_raw q h eb eo k ce i n a b e cr M  M1 M9
  have hkp : ∀ id k, M.get id = some k → id ≠ q → id ≠ h → M9.get id = some k := fun id k g h_q h_h => by
    have g0 := Mem.lt_of_get g
    have g := ((fun id h _ => kp4 id h) id h_h (Mem.lt_of_get g)).trans g
    have g := ((fun id h _ => kp12 id h) id h_h (Mem.lt_of_get g)).trans g
    exact g
  obtain ⟨T1, h1, h2⟩ := Rd.told noNumP mixedP (specs_none Try.prog) (fun _ _ => rfl) hraw (hk (lC dC24 gq rfl) (hk (bT cc0) (hk (lC dC24 gq rfl) (hk (q_inb (by omega) (by simp at cc0; omega)) (hk (q_ld (aload_ext X0 hld0)) (hk (lC dC24 gq rfl) (hk (q_inb (by omega) (by simp at cc0; omega)) (hk (q_ld (aload_ext X0 hld1)) (hk (q_inb hi2.1 hi2.2) (hk (q_st q2) (hk (q_inb hi4.1 hi4.2) (hk (q_st q10) hn))))))))))))
  exact ⟨T1, M9, h1, h2, X13, hM14, g16, g11, hkp⟩
theorem r7bx_raw (q h k ce i n : Nat) (ae : Option Addr) (a b : Int) (M : Mem)  : oR Try.prog [] 60 Try.f7 (q7.loopAt 2) [(9, (pt q 0)), (11, (i64 a)), (12, (i64 b)), (13, (sli h 0 n (n + 1))), (14, (i64 (((i : Nat) : Int))))] M [ttL 5 (.slice ae k ce), ttT 7, ttF 10] [9, 11, 12, 13] = some ((.exit 2), [some (pt q 0), some (i64 a), some (i64 b), some (sli h 0 n (n + 1))], M, [qL 24 q 1 M (.slice ae k ce), .ln ae k ce, qF (decide ((((i : Nat) : Int)) < (((k : Nat) : Int))))]) := by kernel_rfl
theorem r7bx (q h k ce i n : Nat) (ae : Option Addr) (a b : Int) {M : Mem} (hln : ae.isNone = true → k = 0 ∧ ce = 0) (gq : M.get q = some ⟨[i64 ((n : Nat) : Int), (.slice ae k ce)], 26, 2, 0, true⟩) (cc0 : (decide ((((i : Nat) : Int)) < (((k : Nat) : Int)))) = false) : ∃ T1, Rd Try.prog [] (q7.loopAt 2) Try.f7.ntmps (fr [(9, (pt q 0)), (11, (i64 a)), (12, (i64 b)), (13, (sli h 0 n (n + 1))), (14, (i64 (((i : Nat) : Int))))]) M (.exit 2) T1 M ∧ [9, 11, 12, 13].map T1.get = [some (pt q 0), some (i64 a), some (i64 b), some (sli h 0 n (n + 1))] := by
  have hraw := r7bx_raw q h k ce i n ae a b M  
  obtain ⟨T1, h1, h2⟩ := Rd.told noNumP mixedP (specs_none Try.prog) (fun _ _ => rfl) hraw (hk (lC dC24 gq rfl) (hk (lN hln) (hk (bF cc0) hn)))
  exact ⟨T1, h1, h2⟩
theorem loop7b {q h n : Nat} {a b : Int} {S : Value} {l : List E4} {M0 M : Mem} (hM : MemOk M) (X : Ext M0 M) (he : pEdges l S M0) (gq : M.get q = some ⟨[i64 ((n : Nat) : Int), S], 26, 2, 0, true⟩) (nh : M0.next ≤ h) (gh : M.get h = some ⟨List.replicate n (.bool false), 4, 1, 0, true⟩) (dqh : q ≠ h) (hck : ∀ e ∈ l, (0 ≤ e.f ∧ e.f < (n : Int)) ∧ 0 ≤ e.t ∧ e.t < (n : Int)) :
    ∃ M', LoopR Try.prog [] (q7.loopAt 2) Try.f7.ntmps (fr [(9, pt q 0), (11, i64 a), (12, i64 b), (13, sli h 0 n (n + 1)), (14, i64 ((0 : Nat) : Int))]) M (.exit 2) (fr [(9, pt q 0), (11, i64 a), (12, i64 b), (13, sli h 0 n (n + 1))]) M' ∧ Ext M0 M' ∧ MemOk M' ∧ M'.get h = some ⟨(hadT l n).map .bool, 4, 1, 0, true⟩ ∧ ∀ id k, M.get id = some k → id ≠ h → M'.get id = some k := by
  obtain ⟨ae, ce, rfl⟩ := GRowsAt.form he
  have hlen := he.len
  obtain ⟨_, M', h1, h2, h3, h4, h5, h6⟩ := LoopR.for (P := Try.prog) (GL := []) (b := q7.loopAt 2) (nt := Try.f7.ntmps) (id := 2) (σ := Unit) (n := l.length) (Inv := fun i _ M1 => Ext M0 M1 ∧ MemOk M1 ∧ M1.get q = some ⟨[i64 ((n : Nat) : Int), .slice ae l.length ce], 26, 2, 0, true⟩ ∧ M1.get h = some ⟨(hadT (l.take i) n).map .bool, 4, 1, 0, true⟩ ∧ ∀ id k, M.get id = some k → id ≠ h → M1.get id = some k)
    (F := fun i _ => [(9, pt q 0), (11, i64 a), (12, i64 b), (13, sli h 0 n (n + 1)), (14, i64 ((i : Nat) : Int))]) (O := fun _ => [(9, pt q 0), (11, i64 a), (12, i64 b), (13, sli h 0 n (n + 1))])
    (by
      rintro i _ M1 hi ⟨X1, hM1, hg, hh, hk1⟩
      obtain ⟨eb, eo, rfl, _⟩ := form_pos he (by omega)
      have ht : l[i]? = some l[i] := List.getElem?_eq_getElem hi
      obtain ⟨c1, c2⟩ := hck _ (List.getElem_mem hi)
      have hln := hadT_len (l.take i) n
      have l1 := ld_cell (P := Try.prog) (ty := 3) (j := 0) he ht rfl dC3
      have l2 := ld_cell (P := Try.prog) (ty := 3) (j := 1) he ht rfl dC3
      obtain ⟨T1, M2, h1, h2, h3, h4, h5, h6, h7⟩ := r7b q h eb eo l.length ce i n a b l[i] _ hM1 X1 hg nh hh dqh (decide_eq_true (by omega)) (by simpa using l1) (by simpa using l2) c1 (by rw [List.length_map, hln]; omega) c2 (by rw [splice_length, List.length_map, hln]; omega)
      rw [wrap_succ (by omega)] at h2
      refine ⟨(), T1, M2, h1, h2, h3, h4, h5, ?_, fun id k g d => ?_⟩
      · rw [h6, List.take_succ_eq_append_getElem hi, ← had_splice c1 c2]
        simp only [Nat.zero_add, Nat.mul_one]
      · by_cases hq : id = q
        · subst hq
          have := hk1 _ _ g d
          rw [hg] at this
          rw [h5, ← this]
        · exact h7 _ _ (hk1 _ _ g d) hq d)
    (by
      rintro _ M1 ⟨X1, hM1, hg, _⟩
      exact r7bx q h l.length ce l.length n ae a b he.ln hg (decide_eq_false (by omega)))
    l.length 0 (by omega) (s := ()) (M := M) ⟨X, hM, gq, by rw [List.take_zero, hadT_nil]; exact gh, fun _ _ g _ => g⟩
  rw [List.take_length] at h5
  exact ⟨M', h1, h2, h3, h5, h6⟩
theorem r7c0_raw (q bb o c bb2 o2 c2 i n : Nat) (a b : Int) (ql qh : Bool) (S : Value) (M : Mem)  : oR Try.prog [] 60 Try.f7 (q7.loopAt 4) [(9, (pt q 0)), (11, (i64 a)), (12, (i64 b)), (13, (sli bb2 o2 n c2)), (15, (sli bb o n c)), (16, (i64 (((i : Nat) : Int))))] M [ttL 5 (i64 (((n : Nat) : Int))), ttT 8, ttT 14, ttL 16 (.bool ql), ttT 22, ttL 24 (.bool qh), ttT 27, ttT 29, ttT 31, ttT 33, ttT 35, ttT 37, ttT 39, ttT 41, ttT 42, ttT 44, ttF 47] [9, 11, 12, 13, 15, 16] = some (.normal, [some (pt q 0), some (i64 a), some (i64 b), some (sli bb2 o2 n c2), some (sli bb o n c), some (i64 (IntKind.wrap .i64 ((((i : Nat) : Int)) + (1 : Int))))], M, [qL 3 q 0 M (i64 (((n : Nat) : Int))), qT (decide ((((i : Nat) : Int)) < (((n : Nat) : Int)))), .q (.inb (((i : Nat) : Int)) n) (ansB true), qL 4 bb (o + (((i : Nat) : Int) : Int).toNat * 1) M (.bool ql), .q (.inb (((i : Nat) : Int)) n) (ansB true), qL 4 bb2 (o2 + (((i : Nat) : Int) : Int).toNat * 1) M (.bool qh), qT qh, qT qh, qT qh, qT qh, qT ((((i : Nat) : Int)) == a), qT ((((i : Nat) : Int)) == a), qT ((((i : Nat) : Int)) == a), qT qh, qT ((((i : Nat) : Int)) == a), qT qh, qF (!(ql == true))]) := by kernel_rfl
theorem r7c0 (q bb o c bb2 o2 c2 i n : Nat) (a b : Int) (ql qh : Bool) (S : Value) {M : Mem} {M0 : Mem} (X0 : Ext M0 M) (gq : M.get q = some ⟨[i64 ((n : Nat) : Int), S], 26, 2, 0, true⟩) (cc0 : (decide ((((i : Nat) : Int)) < (((n : Nat) : Int)))) = true) (cc1 : (qh) = true) (cc2 : ((((i : Nat) : Int)) == a) = true) (cc3 : (ql) = true) (cc4 : (ql == true) = true) (hld0 : aload Try.prog 4 ⟨bb, o + (((i : Nat) : Int) : Int).toNat * 1, none⟩ M0 = some (.bool ql)) (hld1 : aload Try.prog 4 ⟨bb2, o2 + (((i : Nat) : Int) : Int).toNat * 1, none⟩ M0 = some (.bool qh)) : ∃ T1, Rd Try.prog [] (q7.loopAt 4) Try.f7.ntmps (fr [(9, (pt q 0)), (11, (i64 a)), (12, (i64 b)), (13, (sli bb2 o2 n c2)), (15, (sli bb o n c)), (16, (i64 (((i : Nat) : Int))))]) M .normal T1 M ∧ [9, 11, 12, 13, 15, 16].map T1.get = [some (pt q 0), some (i64 a), some (i64 b), some (sli bb2 o2 n c2), some (sli bb o n c), some (i64 (IntKind.wrap .i64 ((((i : Nat) : Int)) + (1 : Int))))] := by
  have hraw := r7c0_raw q bb o c bb2 o2 c2 i n a b ql qh S M  
  obtain ⟨T1, h1, h2⟩ := Rd.told noNumP mixedP (specs_none Try.prog) (fun _ _ => rfl) hraw (hk (lC dC3 gq rfl) (hk (bT cc0) (hk (q_inb (by omega) (by simp at cc0; omega)) (hk (q_ld (aload_ext X0 hld0)) (hk (q_inb (by omega) (by simp at cc0; omega)) (hk (q_ld (aload_ext X0 hld1)) (hk (bT cc1) (hk (bT cc1) (hk (bT cc1) (hk (bT cc1) (hk (bT cc2) (hk (bT cc2) (hk (bT cc2) (hk (bT cc1) (hk (bT cc2) (hk (bT cc1) (hk (bF (by rw [cc4]; rfl)) hn)))))))))))))))))
  exact ⟨T1, h1, h2⟩
theorem r7c1_raw (q bb o c bb2 o2 c2 i n : Nat) (a b : Int) (ql qh : Bool) (S : Value) (M : Mem)  : oR Try.prog [] 60 Try.f7 (q7.loopAt 4) [(9, (pt q 0)), (11, (i64 a)), (12, (i64 b)), (13, (sli bb2 o2 n c2)), (15, (sli bb o n c)), (16, (i64 (((i : Nat) : Int))))] M [ttL 5 (i64 (((n : Nat) : Int))), ttT 8, ttT 14, ttL 16 (.bool ql), ttT 22, ttL 24 (.bool qh), ttT 27, ttT 29, ttT 31, ttT 33, ttF 35, ttF 37, ttF 39, ttT 41, ttF 42, ttT 44, ttF 47] [9, 11, 12, 13, 15, 16] = some (.normal, [some (pt q 0), some (i64 a), some (i64 b), some (sli bb2 o2 n c2), some (sli bb o n c), some (i64 (IntKind.wrap .i64 ((((i : Nat) : Int)) + (1 : Int))))], M, [qL 3 q 0 M (i64 (((n : Nat) : Int))), qT (decide ((((i : Nat) : Int)) < (((n : Nat) : Int)))), .q (.inb (((i : Nat) : Int)) n) (ansB true), qL 4 bb (o + (((i : Nat) : Int) : Int).toNat * 1) M (.bool ql), .q (.inb (((i : Nat) : Int)) n) (ansB true), qL 4 bb2 (o2 + (((i : Nat) : Int) : Int).toNat * 1) M (.bool qh), qT qh, qT qh, qT qh, qT qh, qF ((((i : Nat) : Int)) == a), qF ((((i : Nat) : Int)) == a), qF ((((i : Nat) : Int)) == a), qT qh, qF ((((i : Nat) : Int)) == a), qT qh, qF (!(ql == ((((i : Nat) : Int)) == b)))]) := by kernel_rfl
theorem r7c1 (q bb o c bb2 o2 c2 i n : Nat) (a b : Int) (ql qh : Bool) (S : Value) {M : Mem} {M0 : Mem} (X0 : Ext M0 M) (gq : M.get q = some ⟨[i64 ((n : Nat) : Int), S], 26, 2, 0, true⟩) (cc0 : (decide ((((i : Nat) : Int)) < (((n : Nat) : Int)))) = true) (cc1 : (qh) = true) (cc2 : ((((i : Nat) : Int)) == a) = false) (cc3 : (ql == ((((i : Nat) : Int)) == b)) = true) (hld0 : aload Try.prog 4 ⟨bb, o + (((i : Nat) : Int) : Int).toNat * 1, none⟩ M0 = some (.bool ql)) (hld1 : aload Try.prog 4 ⟨bb2, o2 + (((i : Nat) : Int) : Int).toNat * 1, none⟩ M0 = some (.bool qh)) : ∃ T1, Rd Try.prog [] (q7.loopAt 4) Try.f7.ntmps (fr [(9, (pt q 0)), (11, (i64 a)), (12, (i64 b)), (13, (sli bb2 o2 n c2)), (15, (sli bb o n c)), (16, (i64 (((i : Nat) : Int))))]) M .normal T1 M ∧ [9, 11, 12, 13, 15, 16].map T1.get = [some (pt q 0), some (i64 a), some (i64 b), some (sli bb2 o2 n c2), some (sli bb o n c), some (i64 (IntKind.wrap .i64 ((((i : Nat) : Int)) + (1 : Int))))] := by
  have hraw := r7c1_raw q bb o c bb2 o2 c2 i n a b ql qh S M  
  obtain ⟨T1, h1, h2⟩ := Rd.told noNumP mixedP (specs_none Try.prog) (fun _ _ => rfl) hraw (hk (lC dC3 gq rfl) (hk (bT cc0) (hk (q_inb (by omega) (by simp at cc0; omega)) (hk (q_ld (aload_ext X0 hld0)) (hk (q_inb (by omega) (by simp at cc0; omega)) (hk (q_ld (aload_ext X0 hld1)) (hk (bT cc1) (hk (bT cc1) (hk (bT cc1) (hk (bT cc1) (hk (bF cc2) (hk (bF cc2) (hk (bF cc2) (hk (bT cc1) (hk (bF cc2) (hk (bT cc1) (hk (bF (by rw [cc3]; rfl)) hn)))))))))))))))))
  exact ⟨T1, h1, h2⟩
theorem r7c2_raw (q bb o c bb2 o2 c2 i n : Nat) (a b : Int) (ql qh : Bool) (S : Value) (M : Mem)  : oR Try.prog [] 60 Try.f7 (q7.loopAt 4) [(9, (pt q 0)), (11, (i64 a)), (12, (i64 b)), (13, (sli bb2 o2 n c2)), (15, (sli bb o n c)), (16, (i64 (((i : Nat) : Int))))] M [ttL 5 (i64 (((n : Nat) : Int))), ttT 8, ttT 14, ttL 16 (.bool ql), ttT 22, ttL 24 (.bool qh), ttF 27, ttF 29, ttF 31, ttF 33, ttF 41, ttF 44, ttF 47] [9, 11, 12, 13, 15, 16] = some (.normal, [some (pt q 0), some (i64 a), some (i64 b), some (sli bb2 o2 n c2), some (sli bb o n c), some (i64 (IntKind.wrap .i64 ((((i : Nat) : Int)) + (1 : Int))))], M, [qL 3 q 0 M (i64 (((n : Nat) : Int))), qT (decide ((((i : Nat) : Int)) < (((n : Nat) : Int)))), .q (.inb (((i : Nat) : Int)) n) (ansB true), qL 4 bb (o + (((i : Nat) : Int) : Int).toNat * 1) M (.bool ql), .q (.inb (((i : Nat) : Int)) n) (ansB true), qL 4 bb2 (o2 + (((i : Nat) : Int) : Int).toNat * 1) M (.bool qh), qF qh, qF qh, qF qh, qF qh, qF qh, qF qh, qF (!(ql == false))]) := by kernel_rfl
theorem r7c2 (q bb o c bb2 o2 c2 i n : Nat) (a b : Int) (ql qh : Bool) (S : Value) {M : Mem} {M0 : Mem} (X0 : Ext M0 M) (gq : M.get q = some ⟨[i64 ((n : Nat) : Int), S], 26, 2, 0, true⟩) (cc0 : (decide ((((i : Nat) : Int)) < (((n : Nat) : Int)))) = true) (cc1 : (qh) = false) (cc2 : (ql) = false) (cc3 : (ql == false) = true) (hld0 : aload Try.prog 4 ⟨bb, o + (((i : Nat) : Int) : Int).toNat * 1, none⟩ M0 = some (.bool ql)) (hld1 : aload Try.prog 4 ⟨bb2, o2 + (((i : Nat) : Int) : Int).toNat * 1, none⟩ M0 = some (.bool qh)) : ∃ T1, Rd Try.prog [] (q7.loopAt 4) Try.f7.ntmps (fr [(9, (pt q 0)), (11, (i64 a)), (12, (i64 b)), (13, (sli bb2 o2 n c2)), (15, (sli bb o n c)), (16, (i64 (((i : Nat) : Int))))]) M .normal T1 M ∧ [9, 11, 12, 13, 15, 16].map T1.get = [some (pt q 0), some (i64 a), some (i64 b), some (sli bb2 o2 n c2), some (sli bb o n c), some (i64 (IntKind.wrap .i64 ((((i : Nat) : Int)) + (1 : Int))))] := by
  have hraw := r7c2_raw q bb o c bb2 o2 c2 i n a b ql qh S M  
  obtain ⟨T1, h1, h2⟩ := Rd.told noNumP mixedP (specs_none Try.prog) (fun _ _ => rfl) hraw (hk (lC dC3 gq rfl) (hk (bT cc0) (hk (q_inb (by omega) (by simp at cc0; omega)) (hk (q_ld (aload_ext X0 hld0)) (hk (q_inb (by omega) (by simp at cc0; omega)) (hk (q_ld (aload_ext X0 hld1)) (hk (bF cc1) (hk (bF cc1) (hk (bF cc1) (hk (bF cc1) (hk (bF cc1) (hk (bF cc1) (hk (bF (by rw [cc3]; rfl)) hn)))))))))))))
  exact ⟨T1, h1, h2⟩
theorem r7cx_raw (q bb o c bb2 o2 c2 i n : Nat) (a b : Int) (S : Value) (M : Mem)  : oR Try.prog [] 60 Try.f7 (q7.loopAt 4) [(9, (pt q 0)), (11, (i64 a)), (12, (i64 b)), (13, (sli bb2 o2 n c2)), (15, (sli bb o n c)), (16, (i64 (((i : Nat) : Int))))] M [ttL 5 (i64 (((n : Nat) : Int))), ttF 8] [9] = some ((.exit 4), [some (pt q 0)], M, [qL 3 q 0 M (i64 (((n : Nat) : Int))), qF (decide ((((i : Nat) : Int)) < (((n : Nat) : Int))))]) := by kernel_rfl
theorem r7cx (q bb o c bb2 o2 c2 i n : Nat) (a b : Int) (S : Value) {M : Mem} (gq : M.get q = some ⟨[i64 ((n : Nat) : Int), S], 26, 2, 0, true⟩) (cc0 : (decide ((((i : Nat) : Int)) < (((n : Nat) : Int)))) = false) : ∃ T1, Rd Try.prog [] (q7.loopAt 4) Try.f7.ntmps (fr [(9, (pt q 0)), (11, (i64 a)), (12, (i64 b)), (13, (sli bb2 o2 n c2)), (15, (sli bb o n c)), (16, (i64 (((i : Nat) : Int))))]) M (.exit 4) T1 M ∧ [9].map T1.get = [some (pt q 0)] := by
  have hraw := r7cx_raw q bb o c bb2 o2 c2 i n a b S M  
  obtain ⟨T1, h1, h2⟩ := Rd.told noNumP mixedP (specs_none Try.prog) (fun _ _ => rfl) hraw (hk (lC dC3 gq rfl) (hk (bF cc0) hn))
  exact ⟨T1, h1, h2⟩
theorem loop7c {q n c c2 : Nat} {al ah : Option Addr} {a b : Int} {S : Value} {L Hd : List Bool} {M : Mem} (hM : MemOk M) (gq : M.get q = some ⟨[i64 ((n : Nat) : Int), S], 26, 2, 0, true⟩) (hs : pBools L (.slice al n c) M) (hh : pBools Hd (.slice ah n c2) M) (hn : 0 < n ∧ n ≤ 60) (hv : ∀ i, i < n → ∃ qh, Hd[i]? = some qh ∧ L[i]? = some (qh && (((i : Nat) : Int) == a || ((i : Nat) : Int) == b))) :
    ∃ M', LoopR Try.prog [] (q7.loopAt 4) Try.f7.ntmps (fr [(9, pt q 0), (11, i64 a), (12, i64 b), (13, .slice ah n c2), (15, .slice al n c), (16, i64 ((0 : Nat) : Int))]) M (.exit 4) (fr [(9, pt q 0)]) M' ∧ Ext M M' ∧ MemOk M' := by
  have n1 := GRowsAt.len_eq hs
  have n2 := GRowsAt.len_eq hh
  obtain ⟨bb, o, rfl, _⟩ := form_pos hs (by omega)
  obtain ⟨bb2, o2, rfl, _⟩ := form_pos hh (by omega)
  obtain ⟨_, M', h1, h2, h3, _⟩ := LoopR.for (P := Try.prog) (GL := []) (b := q7.loopAt 4) (nt := Try.f7.ntmps) (id := 4) (σ := Unit) (n := n) (Inv := fun i _ M1 => Ext M M1 ∧ MemOk M1 ∧ M1.get q = some ⟨[i64 ((n : Nat) : Int), S], 26, 2, 0, true⟩)
    (F := fun i _ => [(9, pt q 0), (11, i64 a), (12, i64 b), (13, sli bb2 o2 n c2), (15, sli bb o n c), (16, i64 ((i : Nat) : Int))]) (O := fun _ => [(9, pt q 0)])
    (by
      rintro i _ M1 hi ⟨X1, hM1, hg⟩
      obtain ⟨qh, e1, e2⟩ := hv i hi
      have l1 := ld_one (P := Try.prog) (ty := 4) hs e2 rfl dC4
      have l2 := ld_one (P := Try.prog) (ty := 4) hh e1 rfl dC4
      cases qh with
      | false =>
        obtain ⟨T1, h1, h2⟩ := r7c2 q bb o c bb2 o2 c2 i n a b false false S (M := M1) X1 hg (decide_eq_true (by omega)) rfl rfl rfl l1 l2
        rw [wrap_succ (by omega)] at h2
        exact ⟨(), T1, M1, h1, h2, X1, hM1, hg⟩
      | true =>
        cases ha : (((i : Nat) : Int) == a) with
        | true =>
          rw [ha] at l1
          obtain ⟨T1, h1, h2⟩ := r7c0 q bb o c bb2 o2 c2 i n a b true true S (M := M1) X1 hg (decide_eq_true (by omega)) rfl ha rfl rfl l1 l2
          rw [wrap_succ (by omega)] at h2
          exact ⟨(), T1, M1, h1, h2, X1, hM1, hg⟩
        | false =>
          rw [ha] at l1
          obtain ⟨T1, h1, h2⟩ := r7c1 q bb o c bb2 o2 c2 i n a b (((i : Nat) : Int) == b) true S (M := M1) X1 hg (decide_eq_true (by omega)) rfl ha (by cases (((i : Nat) : Int) == b) <;> rfl) l1 l2
          rw [wrap_succ (by omega)] at h2
          exact ⟨(), T1, M1, h1, h2, X1, hM1, hg⟩)
    (by
      rintro _ M1 ⟨X1, hM1, hg⟩
      exact r7cx q bb o c bb2 o2 c2 n n a b S hg (decide_eq_false (by omega)))
    n 0 (by omega) (s := ()) (M := M) ⟨Ext.refl M, hM, gq⟩
  exact ⟨M', h1, h2, h3⟩
theorem mkL_len (size : Int) (ns : List Int) (md : Int) : (mkL size ns md).length ≤ 40 := by simp [mkL]; omega
theorem nMk_dec (size : Int) : (decide (0 < ((nMk size : Nat) : Int)) && decide (((nMk size : Nat) : Int) < 2 ^ 62)) = true := by
  have := nMk_range size
  simp only [Bool.and_eq_true, decide_eq_true_eq]; omega
theorem md2_ck {n : Nat} {l : List E4} (h : chkN ((n : Nat) : Int) l = true) : ∀ e ∈ l.map md2, (0 ≤ e.f ∧ e.f < (n : Int)) ∧ 0 ≤ e.t ∧ e.t < (n : Int) := fun e he => by
  obtain ⟨d, hd, rfl⟩ := List.mem_map.1 he
  have := (chkN_spec h).2.2.2 d hd
  exact ⟨⟨this.1, this.2.1⟩, this.2.2.1, this.2.2.2.1⟩
theorem mk_mod (size : Int) (ns : List Int) (x y : Int) : chkN ((nMk size : Nat) : Int) (modL (mkL size ns 2) (modI x ((nMk size : Nat) : Int)) (modI y ((nMk size : Nat) : Int))) = true := by
  have := nMk_range size
  have h1 := modI_range (x := x) (n := ((nMk size : Nat) : Int)) (by omega)
  have h2 := modI_range (x := y) (n := ((nMk size : Nat) : Int)) (by omega)
  exact modL_chk (mk_chk _ _ _) (mkL_len _ _ _) h1 h2
theorem had_at {l : List E4} {n i : Nat} (hi : i < n) : (hadT l n)[i]? = some (l.any (inc ((i : Nat) : Int))) := by
  unfold hadT
  rw [List.getElem?_map, List.getElem?_range hi]; rfl
theorem rK7 : Try.f7.results = #[.tmp 8] := by kernel_rfl
theorem hS7_8_9_10_13_14_18 (B : Bd) : ∀ p ∈ ([(8, pick (Con Try.prog [] 8 Q8)), (9, pick (Con Try.prog [] 9 Q9b)), (10, pick (Con Try.prog [] 10 Q10)), (13, pick (Con Try.prog [] 13 Q13)), (14, pick (Con Try.prog [] 14 Q14)), (18, pick (Con Try.prog [] 18 Q18))] : List (FuncId × (List Value → Mem → Option (Value × Mem)))), SpecOk Try.prog [] B p.1 p.2 := (fun p hp => by simp only [List.mem_cons, List.not_mem_nil, or_false] at hp; rcases hp with rfl | rfl | rfl | rfl | rfl | rfl <;> first | exact Con.ok _)
theorem w7_raw (size a2 a3 : Int) (ans : Option Addr) (cns : Nat) (ns : List Int) (M : Mem) (M3 : Mem) (S12 : Value) (M17 : Mem) (b26 : Nat) (M27 : Mem) (M36 : Mem) (M44 : Mem) (M59 : Mem) (M73 : Mem) (b91 : Nat) (M92 : Mem) (M101 : Mem) (b110 : Nat) (M111 : Mem) (t122 : Bool) (S123 : Value) (M124 : Mem) (M134 : Mem) (a144 : Option Addr) (c145 : Nat) (M150 : Mem) (M163 : Mem) (a184 : Option Addr) (c185 : Nat) (M190 : Mem) (a205 : Option Addr) (c206 : Nat) (M210 : Mem) : oT Try.prog [0, 2, 4] 100 Try.f7 q7 [(i64 size), (.slice ans ns.length cns), (i64 a2), (i64 a3)] M [ttV 3 (.bool true) M3, ttV 12 (.agg ⟨[(i64 ((((nMk size) : Nat) : Int))), S12]⟩) M17, ttV 14 (pt b26 0) M27, ttS 16 M36, .blk 19 [2, 3, 9, 10] .normal (fr [(2, (i64 a2)), (3, (i64 a3)), (9, (pt b26 0))]) M44, ttL 25 (i64 ((((nMk size) : Nat) : Int))), ttV 27 (i64 (modI a2 (((nMk size) : Nat) : Int))) M59, ttL 33 (i64 ((((nMk size) : Nat) : Int))), ttV 35 (i64 (modI a3 (((nMk size) : Nat) : Int))) M73, ttL 43 (i64 ((((nMk size) : Nat) : Int))), ttV 45 (sli b91 0 ((nMk size)) ((nMk size) + 1)) M92, .blk 50 [9, 11, 12, 13, 14] .normal (fr [(9, (pt b26 0)), (11, (i64 (modI a2 (((nMk size) : Nat) : Int)))), (12, (i64 (modI a3 (((nMk size) : Nat) : Int)))), (13, (sli b91 0 ((nMk size)) ((nMk size) + 1)))]) M101, ttL 54 S12, ttV 62 (sli b110 0 1 2) M111, .at 64 ((bif t122 then 1 else 2), .val S123, M124), ttS 68 M134, ttL 70 (.agg ⟨[(i64 ((((nMk size) : Nat) : Int))), S123]⟩), ttV 72 (.slice a144 (nMk size) c145) M150, ttT 78, ttL 82 (i64 ((((nMk size) : Nat) : Int))), ttF 85, .blk 88 [9, 11, 12, 13, 15, 16] .normal (fr [(9, (pt b26 0))]) M163, ttL 90 (.agg ⟨[(i64 ((((nMk size) : Nat) : Int))), S123]⟩), ttV 92 (.slice a184 (orderL (nMk size) (modL (mkL size ns 2) (modI a2 (((nMk size) : Nat) : Int)) (modI a3 (((nMk size) : Nat) : Int)))).length c185) M190, ttT 94, ttV 98 (.slice a205 (orderR 1 net1).length c206) M210, ttT 100, ttL 106 (i64 ((((nMk size) : Nat) : Int)))] 8 = some (.ret, some (.bool (decide ((IntKind.wrap .i64 (((((orderL (nMk size) (modL (mkL size ns 2) (modI a2 (((nMk size) : Nat) : Int)) (modI a3 (((nMk size) : Nat) : Int)))).length : Nat) : Int)) + ((((orderR 1 net1).length : Nat) : Int)))) ≤ (IntKind.wrap .i64 (((((nMk size) : Nat) : Int)) + (1 : Int)))))), (Mem.mk M210.blks M210.next M163.hide (M210.log ++ M163.log)), [qC 8 [] M (.bool true) M3, qC 9 [(i64 size), (.slice ans ns.length cns), (i64 2)] M3 (.agg ⟨[(i64 ((((nMk size) : Nat) : Int))), S12]⟩) M17, .eq (aalloc Try.prog 26 M17) (1, .val (pt b26 0), M27), qS 26 b26 0 (.agg ⟨[(i64 ((((nMk size) : Nat) : Int))), S12]⟩) M27 M36, .blk 0 (.loop (q7.loopAt 0)) Try.f7.ntmps [2, 3, 9, 10] [some (i64 a2), some (i64 a3), some (pt b26 0), some (i64 0)] M36 .normal (fr [(2, (i64 a2)), (3, (i64 a3)), (9, (pt b26 0))]) M44, qL 3 b26 0 (Mem.mk M44.blks M44.next M44.hide []) (i64 ((((nMk size) : Nat) : Int))), qC 18 [(i64 a2), (i64 ((((nMk size) : Nat) : Int)))] (Mem.mk M44.blks M44.next M44.hide []) (i64 (modI a2 (((nMk size) : Nat) : Int))) M59, qL 3 b26 0 (Mem.mk M59.blks M59.next (hides 32 [⟨3, 1, M44.next, M59.next⟩, ⟨2, 1, M44.next, M44.next⟩] ++ M44.hide) M59.log) (i64 ((((nMk size) : Nat) : Int))), qT (Nat.blt b26 M44.next), qC 18 [(i64 a3), (i64 ((((nMk size) : Nat) : Int)))] (Mem.mk M59.blks M59.next M44.hide M59.log) (i64 (modI a3 (((nMk size) : Nat) : Int))) M73, qT (apartN [b26] M73.log), qL 3 b26 0 (Mem.mk M73.blks M73.next M44.hide (M73.log ++ M44.log)) (i64 ((((nMk size) : Nat) : Int))), .eq (amakeSlice Try.prog 28 (i64 ((((nMk size) : Nat) : Int))) (i64 ((((nMk size) : Nat) : Int))) (Mem.mk M73.blks M73.next M44.hide (M73.log ++ M44.log))) (1, .val (sli b91 0 ((nMk size)) ((nMk size) + 1)), M92), .blk 2 (.loop (q7.loopAt 2)) Try.f7.ntmps [9, 11, 12, 13, 14] [some (pt b26 0), some (i64 (modI a2 (((nMk size) : Nat) : Int))), some (i64 (modI a3 (((nMk size) : Nat) : Int))), some (sli b91 0 ((nMk size)) ((nMk size) + 1)), some (i64 0)] M92 .normal (fr [(9, (pt b26 0)), (11, (i64 (modI a2 (((nMk size) : Nat) : Int)))), (12, (i64 (modI a3 (((nMk size) : Nat) : Int)))), (13, (sli b91 0 ((nMk size)) ((nMk size) + 1)))]) M101, qL 24 b26 1 M101 S12, .eq (abuildSlice Try.prog 24 1 [(0, (.agg ⟨[(i64 (modI a2 (((nMk size) : Nat) : Int))), (i64 (modI a3 (((nMk size) : Nat) : Int))), (i64 4), (i64 0)]⟩))] M101) (1, .val (sli b110 0 1 2), M111), .q (.append [24, 24] S12 (sli b110 0 1 2) M111) ((bif t122 then 1 else 2), .val S123, M124), qS 24 b26 1 S123 M124 M134, qL 26 b26 0 M134 (.agg ⟨[(i64 ((((nMk size) : Nat) : Int))), S123]⟩), qC 10 [(.agg ⟨[(i64 ((((nMk size) : Nat) : Int))), S123]⟩)] M134 (.slice a144 (nMk size) c145) M150, .ln a144 (nMk size) c145, qL 3 b26 0 M150 (i64 ((((nMk size) : Nat) : Int))), qF (!(((((nMk size) : Nat) : Int)) == ((((nMk size) : Nat) : Int)))), .blk 4 (.loop (q7.loopAt 4)) Try.f7.ntmps [9, 11, 12, 13, 15, 16] [some (pt b26 0), some (i64 (modI a2 (((nMk size) : Nat) : Int))), some (i64 (modI a3 (((nMk size) : Nat) : Int))), some (sli b91 0 ((nMk size)) ((nMk size) + 1)), some (.slice a144 (nMk size) c145), some (i64 0)] M150 .normal (fr [(9, (pt b26 0))]) M163, qL 26 b26 0 (Mem.mk M163.blks M163.next M163.hide []) (.agg ⟨[(i64 ((((nMk size) : Nat) : Int))), S123]⟩), qC 13 [(.agg ⟨[(i64 ((((nMk size) : Nat) : Int))), S123]⟩)] (Mem.mk M163.blks M163.next M163.hide []) (.slice a184 (orderL (nMk size) (modL (mkL size ns 2) (modI a2 (((nMk size) : Nat) : Int)) (modI a3 (((nMk size) : Nat) : Int)))).length c185) M190, .ln a184 (orderL (nMk size) (modL (mkL size ns 2) (modI a2 (((nMk size) : Nat) : Int)) (modI a3 (((nMk size) : Nat) : Int)))).length c185, qC 14 [(.agg ⟨[(i64 1), sln]⟩)] (Mem.mk M190.blks M190.next M163.hide M190.log) (.slice a205 (orderR 1 net1).length c206) M210, .ln a205 (orderR 1 net1).length c206, qL 3 b26 0 (Mem.mk M210.blks M210.next (hides 128 [⟨4, 1, M190.next, M210.next⟩, ⟨1, 1, M163.next, M190.next⟩, ⟨0, 1, M163.next, M163.next⟩] ++ M163.hide) M210.log) (i64 ((((nMk size) : Nat) : Int))), qT (Nat.blt b26 M163.next), qT (apartN [b26] M210.log)]) := by cases t122 <;> kernel_rfl
theorem w7 (size a2 a3 : Int) (ans : Option Addr) (cns : Nat) (ns : List Int) {M : Mem} (hM : MemOk M) (hns : pInts ns (.slice ans ns.length cns) M) : ∃ v_ M', Ev Try.prog [] 7 [(i64 size), (.slice ans ns.length cns), (i64 a2), (i64 a3)] M v_ M' ∧ Ext M M' ∧ MemOk M' ∧ v_ = (.bool (decide ((IntKind.wrap .i64 (((((orderL (nMk size) (modL (mkL size ns 2) (modI a2 (((nMk size) : Nat) : Int)) (modI a3 (((nMk size) : Nat) : Int)))).length : Nat) : Int)) + ((((orderR 1 net1).length : Nat) : Int)))) ≤ (IntKind.wrap .i64 (((((nMk size) : Nat) : Int)) + (1 : Int)))))) := by
  obtain ⟨w1, N2, M3, p4, l5, e6, E7, hM8, F9⟩ := call_fc (x := ()) hM con8 (rfl)
  have nx10 := E7.next
  have ew1 : w1 = (.bool true) := F9
  subst ew1
  have X11 := (Ext.refl M).trans E7
  obtain ⟨w15, N16, M17, p18, l19, e20, E21, hM22, F23⟩ := call_fc (x := (size, ns, 2)) hM8 con9b (⟨_, _, _, rfl, rfl, AP.Ext (R := pInts) hns X11, rfl⟩)
  have nx24 := E21.next
  obtain ⟨S12, ew15, O14⟩ : pMkO ((nMk size), (mkL size ns 2)) M3.next w15 M17 := F23
  simp only at ew15
  have A13 : AccC 37 4 M [] ((mkL size ns 2)).length ((((mkL size ns 2)).map eRow).flatten) S12 M17 := accOf O14 (X11).next
  have hcS : isCell S12 = true := A13.isCell
  subst ew15
  have X25 := X11.trans E21
  obtain ⟨b26, M27, eb28, em29, g30, E31, hM32⟩ := new_t hM22 ⟨[(i64 0), sln], 26, 2, 0, true⟩
  have nb26 : M.next ≤ b26 := by rw [← eb28]; exact X25.next
  have A33 := A13.new eb28 E31
  have nx34 := E31.next
  have X35 := X25.trans E31
  obtain ⟨M36, q37, g38, kp39, X40, hM41, nx42⟩ := store_t (o := 0) (v := (.agg ⟨[(i64 ((((nMk size) : Nat) : Int))), S12]⟩)) (new := [(i64 ((((nMk size) : Nat) : Int))), S12]) X35 nb26 hM32 dS26 g30 rfl (by show (isCell (i64 _) && (isCell S12 && true)) = true; rw [hcS]; rfl) (Nat.zero_le _) (Nat.le_of_ble_eq_true rfl) rfl
  replace g38 : M36.get b26 = some ⟨[(i64 ((((nMk size) : Nat) : Int))), S12], 26, 2, 0, true⟩ := g38
  have A43 := A33.keep (by simp) (fun id h _ => kp39 id h)
  obtain ⟨M44, hL45, X46, hM47, gq48, A49⟩ := loop7a (a2 := a2) (a3 := a3) hM41 X40 g38 A43 (by have := mkL_len size ns 2; omega)
  obtain ⟨R50, eR51⟩ : ∃ m : Mem, m = Mem.mk M44.blks M44.next M44.hide [] := ⟨_, rfl⟩
  have X52 : Ext (Mem.mk M.blks M.next M.hide []) R50 := by rw [eR51]; exact Ext.aside (X46)
  have lg53 : R50.log = [] := by rw [eR51]
  have nxR50 : R50.next = M44.next := by rw [eR51]
  have hM54 : MemOk R50 := by rw [eR51]; exact MemOk.log hM47
  have ltb26M44 : b26 < M44.next := by have h := Mem.lt_of_get gq48; exact h
  have g55 : R50.get b26 = some ⟨[(i64 ((((nMk size) : Nat) : Int))), S12], 26, 2, 0, true⟩ := by rw [eR51]; exact gq48
  have A56 := A49.same (M' := R50) (fun id b h => by rw [eR51]; exact h)
  have ltb26M59 := Mem.lt_of_get g55
  obtain ⟨w57, N58, M59, p60, l61, e62, E63, hM64, F65⟩ := call_fc (x := (a2, (((nMk size) : Nat) : Int))) hM54 con18 (⟨⟨_, _, rfl, rfl, rfl⟩, nMk_dec size⟩)
  have nx66 := E63.next
  have A67 := A56.ext E63
  have g68 := E63.old g55
  have ew57 : w57 = (i64 (modI a2 (((nMk size) : Nat) : Int))) := F65
  subst ew57
  have lg69 : M59.log = [] := by rw [← e62]; exact lg53
  have X70 := X52.trans E63
  have ltb26M73 := Mem.lt_of_get g68
  obtain ⟨w71, N72, M73, p74, l75, e76, E77, hM78, F79⟩ := call_fc (x := (a3, (((nMk size) : Nat) : Int))) hM64 con18 (⟨⟨_, _, rfl, rfl, rfl⟩, nMk_dec size⟩)
  have nx80 := E77.next
  have A81 := A67.ext E77
  have g82 := E77.old g68
  have ew71 : w71 = (i64 (modI a3 (((nMk size) : Nat) : Int))) := F79
  subst ew71
  have lg83 : M73.log = [] := by rw [← e76]; exact lg69
  have X84 := X70.trans E77
  obtain ⟨M85, ef86⟩ : ∃ m : Mem, m = (Mem.mk M73.blks M73.next M73.hide (M73.log ++ M44.log)) := ⟨_, rfl⟩
  have X87 : Ext M M85 := by rw [ef86]; exact Ext.join (X46) (X84)
  have hM88 : MemOk M85 := by rw [ef86]; exact hM78
  have g89 : M85.get b26 = some ⟨[(i64 ((((nMk size) : Nat) : Int))), S12], 26, 2, 0, true⟩ := by rw [ef86]; exact g82
  have A90 := A81.same (M' := M85) (fun id b h => by rw [ef86]; exact h)
  obtain ⟨b91, M92, eb93, em94, g95, E96, hM97⟩ := mks_t (P := Try.prog) (t := 28) (elem := 4) (z := (.bool false)) (n := ((nMk size))) hM88 (by kernel_rfl) (by kernel_rfl) (by have := nMk_range size; omega)
  have nb91 : M.next ≤ b91 := by rw [← eb93]; exact X87.next
  have db26b91 : b26 ≠ b91 := by have := Mem.lt_of_get g89; omega
  have A98 := A90.new eb93 E96
  have g99 := E96.old g89
  obtain ⟨M101, hL102, X103, hM104, gh105, kp106⟩ := loop7b (a := (modI a2 (((nMk size) : Nat) : Int))) (b := (modI a3 (((nMk size) : Nat) : Int))) hM97 E96 (accE A90 (by rw [List.length_map]) rfl (by have := mkL_len size ns 2; omega)) g99 (Nat.le_of_eq eb93) g95 db26b91 (md2_ck (mk_chk size ns 2))
  have g108 := kp106 _ _ g99 db26b91
  have A107 := acc_but (x := b91) A98 (by simp) kp106
  have X109 := (X87).trans X103
  obtain ⟨b110, M111, eb112, em113, g114, E115, hM116⟩ := new_t hM104 ⟨[(i64 (modI a2 (((nMk size) : Nat) : Int))), (i64 (modI a3 (((nMk size) : Nat) : Int))), (i64 4), (i64 0)], 37, 4, 0, true⟩
  have nb110 : M.next ≤ b110 := by rw [← eb112]; exact X109.next
  have db26b110 : b26 ≠ b110 := by have := Mem.lt_of_get g108; omega
  have db91b110 : b91 ≠ b110 := by have := Mem.lt_of_get gh105; omega
  have A117 := A107.new eb112 E115
  have g118 := E115.old g108
  have g119 := E115.old gh105
  have nx120 := E115.next
  have X121 := X109.trans E115
  obtain ⟨t122, S123, M124, q125, X126, hM127, A128, kb129, ka130⟩ := accc_append (P := Try.prog) (sT := 24) (xT := 24) (y := 32) (c := 2) A117 X121 hM116 (by intro x hx; simp only [List.mem_cons, List.not_mem_nil, or_false] at hx; rcases hx with rfl | rfl | rfl <;> first | exact Mem.lt_of_get g114 | exact Mem.lt_of_get g119 | exact Mem.lt_of_get g118) (by kernel_rfl) (by kernel_rfl) (by kernel_rfl) (by kernel_rfl) (by decide) (by decide) rfl (by have := mkL_len size ns 2; omega) g114 (o := 0) (new := [(i64 (modI a2 (((nMk size) : Nat) : Int))), (i64 (modI a3 (((nMk size) : Nat) : Int))), (i64 4), (i64 0)]) rfl rfl rfl
  have g131 := kb129 _ _ g118 (by simp)
  have g132 := kb129 _ _ g119 (by simp)
  have g133 := kb129 _ _ g114 (by simp)
  obtain ⟨M134, q135, g136, kp137, X138, hM139, nx140⟩ := store_t (o := 1) (v := S123) (new := [(i64 ((((nMk size) : Nat) : Int))), S123]) X126 nb26 hM127 dS24 g131 (by rw [cells_cell A128.isCell]; rfl) (by rw [cells_cell A128.isCell]; show (isCell _ && true) = true; rw [A128.isCell]; rfl) (Nat.zero_le _) (Nat.le_of_ble_eq_true rfl) (by rw [cells_cell A128.isCell]; rfl)
  replace g136 : M134.get b26 = some ⟨[(i64 ((((nMk size) : Nat) : Int))), S123], 26, 2, 0, true⟩ := g136
  have A141 := A128.keep (by simp) (fun id h _ => kp137 id h)
  have g142 := (kp137 _ (Ne.symm db26b91)).trans g132
  have g143 := (kp137 _ (Ne.symm db26b110)).trans g133
  have Ge147 : pEdges (modL (mkL size ns 2) (modI a2 (((nMk size) : Nat) : Int)) (modI a3 (((nMk size) : Nat) : Int))) S123 M134 := accE A141 (modL_len _ _ _) (by unfold modL; rw [List.map_append, List.flatten_append]; rfl) (by have := mkL_len size ns 2; omega)
  have ltb26M150 := Mem.lt_of_get g136
  have ltb91M150 := Mem.lt_of_get g142
  have ltb110M150 := Mem.lt_of_get g143
  obtain ⟨w148, N149, M150, p151, l152, e153, E154, hM155, F156⟩ := call_fc (x := ((nMk size), (modL (mkL size ns 2) (modI a2 (((nMk size) : Nat) : Int)) (modI a3 (((nMk size) : Nat) : Int))))) hM139 con10 (⟨⟨_, rfl, _, rfl, Ge147⟩, mk_mod size ns a2 a3⟩)
  have nx157 := E154.next
  have A158 := A141.ext E154
  have g159 := E154.old g136
  have g160 := E154.old g142
  have g161 := E154.old g143
  have G146 : pBools (linksL (adjM (nMk size) (modL (mkL size ns 2) (modI a2 (((nMk size) : Nat) : Int)) (modI a3 (((nMk size) : Nat) : Int)))) (nMk size)) w148 (hidx [(0, M134.next)] M150) := hx_of F156
  obtain ⟨a144, c145, ew148⟩ := GRowsAt.form G146
  rw [linksL_len] at ew148
  subst ew148
  have lna144 := GRowsAt.ln G146
  have X162 := X138.trans E154
  obtain ⟨M163, hL164, E165, hM166⟩ := loop7c hM155 g159 (hx_out (R := pBools) G146) (GRowsAt.of_blk' (w := 1) (g := bRow) g160 (hadT_len _ _) (flat1 _).symm (fun _ _ => rfl) (by rw [hadT_len]; have := nMk_range size; omega)) (by have := nMk_range size; omega) (fun i hi => ⟨_, had_at hi, mod_link (mk_mod size ns a2 a3) hi⟩)
  have nx167 := E165.next
  have A169 := A158.ext E165
  have g170 := E165.old g159
  have g171 := E165.old g160
  have g172 := E165.old g161
  have X173 := X162.trans E165
  obtain ⟨R174, eR175⟩ : ∃ m : Mem, m = Mem.mk M163.blks M163.next M163.hide [] := ⟨_, rfl⟩
  have X176 : Ext (Mem.mk M.blks M.next M.hide []) R174 := by rw [eR175]; exact Ext.aside (X173)
  have lg177 : R174.log = [] := by rw [eR175]
  have nxR174 : R174.next = M163.next := by rw [eR175]
  have hM178 : MemOk R174 := by rw [eR175]; exact MemOk.log hM166
  have ltb26M163 : b26 < M163.next := by have h := Mem.lt_of_get g170; exact h
  have g179 : R174.get b26 = some ⟨[(i64 ((((nMk size) : Nat) : Int))), S123], 26, 2, 0, true⟩ := by rw [eR175]; exact g170
  have ltb91M163 : b91 < M163.next := by have h := Mem.lt_of_get g171; exact h
  have g180 : R174.get b91 = some ⟨((hadT (((mkL size ns 2)).map md2) (nMk size)).map Value.bool), 4, 1, 0, true⟩ := by rw [eR175]; exact g171
  have ltb110M163 : b110 < M163.next := by have h := Mem.lt_of_get g172; exact h
  have g181 : R174.get b110 = some ⟨[(i64 (modI a2 (((nMk size) : Nat) : Int))), (i64 (modI a3 (((nMk size) : Nat) : Int))), (i64 4), (i64 0)], 37, 4, 0, true⟩ := by rw [eR175]; exact g172
  have A182 := A169.same (M' := R174) (fun id b h => by rw [eR175]; exact h)
  have Ge187 : pEdges (modL (mkL size ns 2) (modI a2 (((nMk size) : Nat) : Int)) (modI a3 (((nMk size) : Nat) : Int))) S123 R174 := accE A182 (modL_len _ _ _) (by unfold modL; rw [List.map_append, List.flatten_append]; rfl) (by have := mkL_len size ns 2; omega)
  have ltb26M190 := Mem.lt_of_get g179
  have ltb91M190 := Mem.lt_of_get g180
  have ltb110M190 := Mem.lt_of_get g181
  obtain ⟨w188, N189, M190, p191, l192, e193, E194, hM195, F196⟩ := call_fc (x := ((nMk size), (modL (mkL size ns 2) (modI a2 (((nMk size) : Nat) : Int)) (modI a3 (((nMk size) : Nat) : Int))))) hM178 con13 (⟨⟨_, rfl, _, rfl, Ge187⟩, mk_mod size ns a2 a3⟩)
  have nx197 := E194.next
  have A199 := A182.ext E194
  have g200 := E194.old g179
  have g201 := E194.old g180
  have g202 := E194.old g181
  have G186 : pInts (orderL (nMk size) (modL (mkL size ns 2) (modI a2 (((nMk size) : Nat) : Int)) (modI a3 (((nMk size) : Nat) : Int)))) w188 (hidx [(0, R174.next)] M190) := hx_of F196
  obtain ⟨a184, c185, ew188⟩ := GRowsAt.form G186
  subst ew188
  have lna184 := GRowsAt.ln G186
  have lg203 : M190.log = [] := by rw [← e193]; exact lg177
  have X204 := X176.trans E194
  have ltb26M210 := Mem.lt_of_get g200
  have ltb91M210 := Mem.lt_of_get g201
  have ltb110M210 := Mem.lt_of_get g202
  obtain ⟨w208, N209, M210, p211, l212, e213, E214, hM215, F216⟩ := call_fc (x := (1, net1)) hM195 con14 (⟨⟨_, rfl, _, rfl, GRowsAt.nil none⟩, chk1⟩)
  have nx217 := E214.next
  have A220 := A199.ext E214
  have g221 := E214.old g200
  have G207 : pInts (orderR 1 net1) w208 (hidx [(0, M190.next)] M210) := hx_of F216
  obtain ⟨a205, c206, ew208⟩ := GRowsAt.form G207
  subst ew208
  have lna205 := GRowsAt.ln G207
  have lg224 : M210.log = [] := by rw [← e213]; exact lg203
  have X225 := X204.trans E214
  obtain ⟨M226, ef227⟩ : ∃ m : Mem, m = (Mem.mk M210.blks M210.next M210.hide (M210.log ++ M163.log)) := ⟨_, rfl⟩
  have X228 : Ext M M226 := by rw [ef227]; exact Ext.join (X173) (X225)
  have hM229 : MemOk M226 := by rw [ef227]; exact hM215
  have A233 := A220.same (M' := M226) (fun id b h => by rw [ef227]; exact h)
  have hraw := w7_raw size a2 a3 ans cns ns M  M3 S12 M17 b26 M27 M36 M44 M59 M73 b91 M92 M101 b110 M111 t122 S123 M124 M134 a144 c145 M150 M163 a184 c185 M190 a205 c206 M210
  have rw0 : Mem.mk M44.blks M44.next M44.hide [] = R50 := eR51.symm
  have rw1 : Mem.mk M59.blks M59.next M44.hide M59.log = M59 := by rw [(show M44.hide = M59.hide from ((X46).hide.trans (X70).hide.symm))]
  have rw2 : Mem.mk M59.blks M59.next (hides 32 [⟨3, 1, M44.next, M59.next⟩, ⟨2, 1, M44.next, M44.next⟩] ++ M44.hide) M59.log = hidx (hides 32 [⟨3, 1, M44.next, M59.next⟩, ⟨2, 1, M44.next, M44.next⟩]) M59 := by rw [(show M44.hide = M59.hide from ((X46).hide.trans (X70).hide.symm))]; rfl
  have rw3 : Mem.mk M73.blks M73.next M44.hide M73.log = M73 := by rw [(show M44.hide = M73.hide from ((X46).hide.trans (X84).hide.symm))]
  have rw4 : (Mem.mk M73.blks M73.next M44.hide (M73.log ++ M44.log)) = (Mem.mk M73.blks M73.next M73.hide (M73.log ++ M44.log)) := by rw [(show M44.hide = M73.hide from ((X46).hide.trans (X84).hide.symm))]
  have rw5 : (Mem.mk M73.blks M73.next M73.hide (M73.log ++ M44.log)) = M85 := ef86.symm
  have rw6 : Mem.mk M163.blks M163.next M163.hide [] = R174 := eR175.symm
  have rw7 : Mem.mk M190.blks M190.next M163.hide M190.log = M190 := by rw [(show M163.hide = M190.hide from ((X173).hide.trans (X204).hide.symm))]
  have rw8 : Mem.mk M210.blks M210.next M163.hide M210.log = M210 := by rw [(show M163.hide = M210.hide from ((X173).hide.trans (X225).hide.symm))]
  have rw9 : Mem.mk M210.blks M210.next (hides 128 [⟨4, 1, M190.next, M210.next⟩, ⟨1, 1, M163.next, M190.next⟩, ⟨0, 1, M163.next, M163.next⟩] ++ M163.hide) M210.log = hidx (hides 128 [⟨4, 1, M190.next, M210.next⟩, ⟨1, 1, M163.next, M190.next⟩, ⟨0, 1, M163.next, M163.next⟩]) M210 := by rw [(show M163.hide = M210.hide from ((X173).hide.trans (X225).hide.symm))]; rfl
  have rw10 : (Mem.mk M210.blks M210.next M163.hide (M210.log ++ M163.log)) = (Mem.mk M210.blks M210.next M210.hide (M210.log ++ M163.log)) := by rw [(show M163.hide = M210.hide from ((X173).hide.trans (X225).hide.symm))]
  have rw11 : (Mem.mk M210.blks M210.next M210.hide (M210.log ++ M163.log)) = M226 := ef227.symm
  try rw [rw0] at hraw
  try rw [rw1] at hraw
  try rw [rw2] at hraw
  try rw [rw3] at hraw
  try rw [rw4] at hraw
  try rw [rw5] at hraw
  try rw [rw6] at hraw
  try rw [rw7] at hraw
  try rw [rw8] at hraw
  try rw [rw9] at hraw
  try rw [rw10] at hraw
  try rw [rw11] at hraw
  exact ⟨(.bool (decide ((IntKind.wrap .i64 (((((orderL (nMk size) (modL (mkL size ns 2) (modI a2 (((nMk size) : Nat) : Int)) (modI a3 (((nMk size) : Nat) : Int)))).length : Nat) : Int)) + ((((orderR 1 net1).length : Nat) : Int)))) ≤ (IntKind.wrap .i64 (((((nMk size) : Nat) : Int)) + (1 : Int)))))), M226, Ev.told_tmp noNumP mixedP Try.func7 q7_ok (by kernel_rfl) rK7 (fun B => specsB_ok (hS7_8_9_10_13_14_18 B) (k := [(0, bone (.loop (q7.loopAt 0)) Try.f7.ntmps [2, 3, 9, 10] [some (i64 a2), some (i64 a3), some (pt b26 0), some (i64 0)] M36 .normal (fr [(2, (i64 a2)), (3, (i64 a3)), (9, (pt b26 0))]) M44), (2, bone (.loop (q7.loopAt 2)) Try.f7.ntmps [9, 11, 12, 13, 14] [some (pt b26 0), some (i64 (modI a2 (((nMk size) : Nat) : Int))), some (i64 (modI a3 (((nMk size) : Nat) : Int))), some (sli b91 0 ((nMk size)) ((nMk size) + 1)), some (i64 0)] M92 .normal (fr [(9, (pt b26 0)), (11, (i64 (modI a2 (((nMk size) : Nat) : Int)))), (12, (i64 (modI a3 (((nMk size) : Nat) : Int)))), (13, (sli b91 0 ((nMk size)) ((nMk size) + 1)))]) M101), (4, bone (.loop (q7.loopAt 4)) Try.f7.ntmps [9, 11, 12, 13, 15, 16] [some (pt b26 0), some (i64 (modI a2 (((nMk size) : Nat) : Int))), some (i64 (modI a3 (((nMk size) : Nat) : Int))), some (sli b91 0 ((nMk size)) ((nMk size) + 1)), some (.slice a144 (nMk size) c145), some (i64 0)] M150 .normal (fr [(9, (pt b26 0))]) M163)]) (fun p hp => by simp only [List.mem_cons, List.not_mem_nil, or_false] at hp; rcases hp with rfl | rfl | rfl <;> first | exact BlkOk.loop noNumP mixedP hL45 | exact BlkOk.loop noNumP mixedP hL102 | exact BlkOk.loop noNumP mixedP hL164)) (fun _ h => blksF_three h) hraw (hk (q_call rfl p4 l5 e6) (hk (q_call rfl p18 l19 e20) (hk (q_eq (by rw [← eb28, ← em29]; kernel_rfl) Nat.one_ne_zero) (hk (q_st q37) (hk (q_blk rfl) (hk (lC dC3 g55 rfl) (hk (q_call rfl p60 l61 e62) (hk (lC dC3 (hidx_get.2 ⟨hides_low (by simp; omega), g68⟩) rfl) (hk (q_lt ltb26M44) (hk (q_call rfl p74 l75 e76) (hk (q_apart (by rw [lg83]; simp <;> omega)) (hk (lC dC3 g89 rfl) (hk (q_eq em94 Nat.one_ne_zero) (hk (q_blk rfl) (hk (lC dC24 g108 rfl) (hk (q_eq (by rw [← eb112, ← em113]; kernel_rfl) Nat.one_ne_zero) (hk (q_app q125 (by cases t122 <;> simp)) (hk (q_st q135) (hk (lA ⟨dA26, dS26⟩ g136 rfl) (hk (q_call rfl p151 l152 e153) (hk (lN lna144) (hk (lC dC3 g159 rfl) (hk (bF (by first | simp_all | (simp; omega))) (hk (q_blk rfl) (hk (lA ⟨dA26, dS26⟩ g179 rfl) (hk (q_call rfl p191 l192 e193) (hk (lN lna184) (hk (q_call rfl p211 l212 e213) (hk (lN lna205) (hk (lC dC3 (hidx_get.2 ⟨hides_low (by simp; omega), g221⟩) rfl) (hk (q_lt ltb26M163) (hk (q_apart (by rw [lg224]; simp <;> omega)) hn)))))))))))))))))))))))))))))))), X228, hM229, rfl⟩
end Go.Proofs.Ytfeabmmgmbddnaa
