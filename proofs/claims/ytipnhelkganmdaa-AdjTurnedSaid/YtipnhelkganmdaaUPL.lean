/-
  Package adj: each of its laws for every argument; no conditions. The last text states which.
-/
import Derived.Test.YtipnhelkganmdaaUPK
open Go Go.Am Go.Proofs
namespace Go.Proofs.Ytipnhelkganmdaa
set_option maxRecDepth 100000
set_option linter.unusedVariables false
set_option linter.unusedSimpArgs false
theorem rK11 : Try.f11.results = #[.cell 6 26] := by kernel_rfl
theorem mkE_new {M0 M M' : Mem} {S : Value} {l : List E4} {p r6 : Nat} (h : AccC 32 4 M0 [p, r6] l.length ((l.map eRow).flatten) S M) (hk : ∀ id, id ≠ r6 → M'.get id = M.get id) (hl : l.length ≤ 9223372036854775807) : pEdges l S (hid M0.next M') := by
  rcases h with ⟨rfl, h0, _⟩ | ⟨b, rfl, _, _, h3, h5, h6⟩
  · rw [List.eq_nil_of_length_eq_zero h0]; exact GRowsAt.nil none
  · exact GRowsAt.of_blk' (hid_of h3 ((hk b (fun e => h5 (by simp [e]))).trans h6)) rfl rfl (fun _ _ => rfl) hl
theorem w9_raw (size : Int) (ans : Option Addr) (cns : Nat) (ns : List Int) (md : Int) (M : Mem) (b1 : Nat) (M2 : Mem) (M12 : Mem) (b22 : Nat) (M23 : Mem) (M32 : Mem) (S40 : Value) (M43 : Mem) (M48 : Mem) : oT Try.prog [0] 60 Try.f11 q11 [(i64 size), (.slice ans ns.length cns), (i64 md)] M [ttV 1 (pt b1 0) M2, ttV 5 (i64 (modI size 12)) M12, ttV 11 (pt b22 0) M23, ttS 13 M32, .blk 16 [1, 2, 6, 7, 8] .normal (fr [(6, (pt b1 0)), (7, (pt b22 0))]) M43, ttL 18 (.agg ⟨[(i64 (((nMk size : Nat) : Int))), S40]⟩), ttS 20 M48] 6 = some (.ret, some (pt b1 0), M48, [.eq (aalloc Try.prog 26 M) (1, .val (pt b1 0), M2), qC 24 [(i64 size), (i64 12)] M2 (i64 (modI size 12)) M12, .eq (aalloc Try.prog 26 M12) (1, .val (pt b22 0), M23), qS 26 b22 0 (.agg ⟨[(i64 (IntKind.wrap .i64 ((1 : Int) + (modI size 12)))), sln]⟩) M23 M32, .blk 0 (.loop (q11.loopAt 0)) Try.f11.ntmps [1, 2, 6, 7, 8] [some (.slice ans ns.length cns), some (i64 md), some (pt b1 0), some (pt b22 0), some (i64 0)] M32 .normal (fr [(6, (pt b1 0)), (7, (pt b22 0))]) M43, qL 26 b22 0 M43 (.agg ⟨[(i64 (((nMk size : Nat) : Int))), S40]⟩), qS 26 b1 0 (.agg ⟨[(i64 (((nMk size : Nat) : Int))), S40]⟩) M43 M48]) := by kernel_rfl
theorem w9 (size : Int) (ans : Option Addr) (cns : Nat) (ns : List Int) (md : Int) {M : Mem} (hM : MemOk M) (hns : pInts ns (.slice ans ns.length cns) M) : ∃ v_ M', Ev Try.prog [] 11 [(i64 size), (.slice ans ns.length cns), (i64 md)] M v_ M' ∧ Ext M M' ∧ MemOk M' ∧ newR pNetN (nMk size, mkL size ns md) M.next v_ M' := by
  obtain ⟨b1, M2, eb3, em4, g5, E6, hM7⟩ := new_t hM ⟨[(i64 0), sln], 26, 2, 0, true⟩
  have nb1 : M.next ≤ b1 := by rw [← eb3]; exact (Ext.refl M).next
  have nx8 := E6.next
  have X9 := (Ext.refl M).trans E6
  have ltb1M12 := Mem.lt_of_get g5
  obtain ⟨w10, N11, M12, p13, l14, e15, E16, hM17, F18⟩ := call_fc (x := (size, 12)) hM7 con24 (⟨⟨_, _, rfl, rfl, rfl⟩, rfl⟩)
  have nx19 := E16.next
  have g20 := E16.old g5
  have ew10 : w10 = (i64 (modI size 12)) := F18
  subst ew10
  have X21 := X9.trans E16
  obtain ⟨b22, M23, eb24, em25, g26, E27, hM28⟩ := new_t hM17 ⟨[(i64 0), sln], 26, 2, 0, true⟩
  have nb22 : M.next ≤ b22 := by rw [← eb24]; exact X21.next
  have db1b22 : b1 ≠ b22 := by have := Mem.lt_of_get g20; omega
  have g29 := E27.old g20
  have nx30 := E27.next
  have X31 := X21.trans E27
  obtain ⟨M32, q33, g34, kp35, X36, hM37, nx38⟩ := store_t (o := 0) (v := (.agg ⟨[(i64 (IntKind.wrap .i64 ((1 : Int) + (modI size 12)))), sln]⟩)) (new := [(i64 (IntKind.wrap .i64 ((1 : Int) + (modI size 12)))), sln]) X31 nb22 hM28 dS26 g26 rfl rfl (Nat.zero_le _) (Nat.le_of_ble_eq_true rfl) rfl
  replace g34 : M32.get b22 = some ⟨[(i64 (IntKind.wrap .i64 ((1 : Int) + (modI size 12)))), sln], 26, 2, 0, true⟩ := g34
  have g39 := (kp35 _ db1b22).trans g29
  obtain ⟨M43, hL44, X45, hM46, gq47, S40, gs42, A41⟩ := loop9 (md := md) hM37 X36 hns nb22 (N := ((nMk size : Nat) : Int)) (by rw [← nMk_eq]; exact g34) g39 (Ne.symm db1b22) (by have := nMk_range size; simp only [Bool.and_eq_true, decide_eq_true_eq]; omega)
  have hcS : isCell S40 = true := AccC.isCell A41
  have db22b1 := (Ne.symm db1b22)
  obtain ⟨M48, q49, g50, kp51, X52, hM53, nx54⟩ := store_t (o := 0) (v := (.agg ⟨[(i64 (((nMk size : Nat) : Int))), S40]⟩)) (new := [(i64 (((nMk size : Nat) : Int))), S40]) X45 nb1 hM46 dS26 gq47 rfl (by show (isCell (i64 _) && (isCell S40 && true)) = true; rw [hcS]; rfl) (Nat.zero_le _) (Nat.le_of_ble_eq_true rfl) rfl
  replace g50 : M48.get b1 = some ⟨[(i64 (((nMk size : Nat) : Int))), S40], 26, 2, 0, true⟩ := g50
  have g55 := (kp51 _ db22b1).trans gs42
  have hlen := hns.len
  have hraw := w9_raw size ans cns ns md M  b1 M2 M12 b22 M23 M32 S40 M43 M48
  exact ⟨(.agg ⟨[(i64 (((nMk size : Nat) : Int))), S40]⟩), M48, Ev.told_cell noNumP mixedP Try.func11 q11_ok (by kernel_rfl) rK11 (fun B => specsB_ok (hS9_19 B) (k := [(0, bone (.loop (q11.loopAt 0)) Try.f11.ntmps [1, 2, 6, 7, 8] [some (.slice ans ns.length cns), some (i64 md), some (pt b1 0), some (pt b22 0), some (i64 0)] M32 .normal (fr [(6, (pt b1 0)), (7, (pt b22 0))]) M43)]) (fun p hp => by simp only [List.mem_cons, List.not_mem_nil, or_false] at hp; rcases hp with rfl <;> first | exact BlkOk.loop noNumP mixedP hL44)) (fun _ h => blksF_one h) hraw (aload_agg (a := ⟨b1, 0, none⟩) dA26 dS26 g50 rfl) (hk (q_eq (by rw [← eb3, ← em4]; kernel_rfl) Nat.one_ne_zero) (hk (q_call rfl p13 l14 e15) (hk (q_eq (by rw [← eb24, ← em25]; kernel_rfl) Nat.one_ne_zero) (hk (q_st q33) (hk (q_blk rfl) (hk (lA ⟨dA26, dS26⟩ gs42 rfl) (hk (q_st q49) hn))))))), X52, hM53, ⟨_, rfl, mkE_new A41 kp51 (Nat.le_trans (by rw [List.length_map, List.length_take]; exact Nat.min_le_left _ _ : (List.map (edgeM ((nMk size : Nat) : Int) md) (ns.take 40)).length ≤ 40) (by decide))⟩⟩
abbrev Q11 := FC (as3 pI pInts pI) (newR pNetN) (fun x => (nMk x.1, mkL x.1 x.2.1 x.2.2))
theorem con11 {x : Int × List Int × Int} {lv : List Value} {M : Mem} (hM : MemOk M) (h : (as3 pI pInts pI) x lv M) : ∃ v M', Con Try.prog [] 11 Q11 lv M v M' := by
  refine FC.con h ?_
  obtain ⟨g0, g1, g2, rfl, k0, k1, k2⟩ := h
  obtain ⟨size, ns, md⟩ := x
  obtain rfl := k0
  obtain rfl := k2
  obtain ⟨a, c, rfl⟩ := GRowsAt.form k1
  obtain ⟨v, M', h1, h2, _, h3⟩ := w9 size a c ns md hM k1
  exact ⟨v, M', h1, h2, h3⟩
end Go.Proofs.Ytipnhelkganmdaa
