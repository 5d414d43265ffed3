/-
  Package adj: each of its laws for every argument; no conditions. The last text states which.
-/
import Derived.Test.YtipnhelkganmdaaU4
import Derived.Test.YtipnhelkganmdaaGUQ
open Go Go.Am Go.Proofs
namespace Go.Proofs.Ytipnhelkganmdaa
set_option maxRecDepth 100000
set_option linter.unusedVariables false
set_option linter.unusedSimpArgs false
theorem rK15 : Try.f15.results = #[.tmp 4] := by kernel_rfl
theorem w15_0_raw (x n : Int) (M : Mem)  : oT Try.prog [] 51 Try.f15 q15 [(i64 x), (i64 n)] M [ttT 7, ttT 14] 4 = some (.ret, some (i64 (IntKind.wrap .i64 ((x.tmod n) + n))), M, [.q (.nz n) (ansB true), qT (decide ((x.tmod n) < (0 : Int)))]) := by kernel_rfl
theorem w15_0 (x n : Int) {M : Mem} (hM : MemOk M) (hnz : n ≠ 0) (cc0 : (decide ((x.tmod n) < (0 : Int))) = true) : ∃ v_ M', Ev Try.prog [] 15 [(i64 x), (i64 n)] M v_ M' ∧ Ext M M' ∧ MemOk M' ∧ v_ = (i64 (IntKind.wrap .i64 ((x.tmod n) + n))) := by
  have hraw := w15_0_raw x n M  
  exact ⟨(i64 (IntKind.wrap .i64 ((x.tmod n) + n))), M, Ev.told_tmp noNumP mixedP Try.func15 q15_ok (by kernel_rfl) rK15 (specs_none Try.prog) (fun _ _ => rfl) hraw (hk (q_nz hnz) (hk (bT cc0) hn)), (Ext.refl M), hM, rfl⟩
theorem w15_1_raw (x n : Int) (M : Mem)  : oT Try.prog [] 51 Try.f15 q15 [(i64 x), (i64 n)] M [ttT 7, ttF 14] 4 = some (.ret, some (i64 (x.tmod n)), M, [.q (.nz n) (ansB true), qF (decide ((x.tmod n) < (0 : Int)))]) := by kernel_rfl
theorem w15_1 (x n : Int) {M : Mem} (hM : MemOk M) (hnz : n ≠ 0) (cc0 : (decide ((x.tmod n) < (0 : Int))) = false) : ∃ v_ M', Ev Try.prog [] 15 [(i64 x), (i64 n)] M v_ M' ∧ Ext M M' ∧ MemOk M' ∧ v_ = (i64 (x.tmod n)) := by
  have hraw := w15_1_raw x n M  
  exact ⟨(i64 (x.tmod n)), M, Ev.told_tmp noNumP mixedP Try.func15 q15_ok (by kernel_rfl) rK15 (specs_none Try.prog) (fun _ _ => rfl) hraw (hk (q_nz hnz) (hk (bF cc0) hn)), (Ext.refl M), hM, rfl⟩
abbrev Q15 := FC (asP (as2 pI pI) fun x => (decide (0 < x.2) && decide (x.2 < 2 ^ 62)) = true) (plain pI) (fun x => modI x.1 x.2)
theorem con15 {x : Int × Int} {lv : List Value} {M : Mem} (hM : MemOk M) (h : (asP (as2 pI pI) fun x : Int × Int => (decide (0 < x.2) && decide (x.2 < 2 ^ 62)) = true) x lv M) : ∃ v M', Con Try.prog [] 15 Q15 lv M v M' := by
  refine FC.con h ?_
  obtain ⟨⟨g0, g1, rfl, rfl, rfl⟩, hc⟩ := h
  obtain ⟨x, n⟩ := x
  simp only [Bool.and_eq_true, decide_eq_true_eq] at hc ⊢
  by_cases hlt : x.tmod n < 0
  · obtain ⟨v, M', h1, h2, _, h3⟩ := w15_0 x n hM (by omega) (decide_eq_true hlt)
    exact ⟨v, M', h1, h2, h3.trans (congrArg i64 (modI_neg hc.1 hc.2 hlt))⟩
  · obtain ⟨v, M', h1, h2, _, h3⟩ := w15_1 x n hM (by omega) (decide_eq_false hlt)
    exact ⟨v, M', h1, h2, h3.trans (congrArg i64 (modI_pos hlt))⟩
theorem r17r_raw (bb o m c i : Nat) (x y : Int) (M : Mem)  : oR Try.prog [] 60 Try.f17 (q17.loopAt 0) [(0, (sli bb o m c)), (1, (i64 x)), (5, (i64 (((i : Nat) : Int))))] M [ttT 8, ttT 14, ttL 16 (i64 y), ttT 21] [4] = some (.ret, [some (.bool true)], M, [qT (decide ((((i : Nat) : Int)) < (((m : Nat) : Int)))), .q (.inb (((i : Nat) : Int)) m) (ansB true), qL 3 bb (o + (((i : Nat) : Int) : Int).toNat * 1) M (i64 y), qT (y == x)]) := by kernel_rfl
theorem r17r (bb o m c i : Nat) (x y : Int) {M : Mem} {M0 : Mem} (X0 : Ext M0 M) (cc0 : (decide ((((i : Nat) : Int)) < (((m : Nat) : Int)))) = true) (cc1 : (y == x) = true) (hld0 : aload Try.prog 3 ⟨bb, o + (((i : Nat) : Int) : Int).toNat * 1, none⟩ M0 = some (i64 y)) : ∃ T1, Rd Try.prog [] (q17.loopAt 0) Try.f17.ntmps (fr [(0, (sli bb o m c)), (1, (i64 x)), (5, (i64 (((i : Nat) : Int))))]) M .ret T1 M ∧ [4].map T1.get = [some (.bool true)] := by
  have hraw := r17r_raw bb o m c i x y M  
  obtain ⟨T1, h1, h2⟩ := Rd.told noNumP mixedP (specs_none Try.prog) (fun _ _ => rfl) hraw (hk (bT cc0) (hk (q_inb (by omega) (by simp at cc0; omega)) (hk (q_ld (aload_ext X0 hld0)) (hk (bT cc1) hn))))
  exact ⟨T1, h1, h2⟩
theorem r17n_raw (bb o m c i : Nat) (x y : Int) (M : Mem)  : oR Try.prog [] 60 Try.f17 (q17.loopAt 0) [(0, (sli bb o m c)), (1, (i64 x)), (5, (i64 (((i : Nat) : Int))))] M [ttT 8, ttT 14, ttL 16 (i64 y), ttF 21] [0, 1, 5] = some (.normal, [some (sli bb o m c), some (i64 x), some (i64 (IntKind.wrap .i64 ((((i : Nat) : Int)) + (1 : Int))))], M, [qT (decide ((((i : Nat) : Int)) < (((m : Nat) : Int)))), .q (.inb (((i : Nat) : Int)) m) (ansB true), qL 3 bb (o + (((i : Nat) : Int) : Int).toNat * 1) M (i64 y), qF (y == x)]) := by kernel_rfl
theorem r17n (bb o m c i : Nat) (x y : Int) {M : Mem} {M0 : Mem} (X0 : Ext M0 M) (cc0 : (decide ((((i : Nat) : Int)) < (((m : Nat) : Int)))) = true) (cc1 : (y == x) = false) (hld0 : aload Try.prog 3 ⟨bb, o + (((i : Nat) : Int) : Int).toNat * 1, none⟩ M0 = some (i64 y)) : ∃ T1, Rd Try.prog [] (q17.loopAt 0) Try.f17.ntmps (fr [(0, (sli bb o m c)), (1, (i64 x)), (5, (i64 (((i : Nat) : Int))))]) M .normal T1 M ∧ [0, 1, 5].map T1.get = [some (sli bb o m c), some (i64 x), some (i64 (IntKind.wrap .i64 ((((i : Nat) : Int)) + (1 : Int))))] := by
  have hraw := r17n_raw bb o m c i x y M  
  obtain ⟨T1, h1, h2⟩ := Rd.told noNumP mixedP (specs_none Try.prog) (fun _ _ => rfl) hraw (hk (bT cc0) (hk (q_inb (by omega) (by simp at cc0; omega)) (hk (q_ld (aload_ext X0 hld0)) (hk (bF cc1) hn))))
  exact ⟨T1, h1, h2⟩
theorem r17x_raw (a : Option Addr) (m c i : Nat) (x : Int) (M : Mem)  : oR Try.prog [] 60 Try.f17 (q17.loopAt 0) [(0, (.slice a m c)), (1, (i64 x)), (5, (i64 (((i : Nat) : Int))))] M [ttT 5, ttF 8] [] = some ((.exit 0), [], M, [.ln a m c, qF (decide ((((i : Nat) : Int)) < (((m : Nat) : Int))))]) := by kernel_rfl
theorem r17x (a : Option Addr) (m c i : Nat) (x : Int) {M : Mem} (hln : a.isNone = true → m = 0 ∧ c = 0) (cc0 : (decide ((((i : Nat) : Int)) < (((m : Nat) : Int)))) = false) : ∃ T1, Rd Try.prog [] (q17.loopAt 0) Try.f17.ntmps (fr [(0, (.slice a m c)), (1, (i64 x)), (5, (i64 (((i : Nat) : Int))))]) M (.exit 0) T1 M ∧ [].map T1.get = [] := by
  have hraw := r17x_raw a m c i x M  
  obtain ⟨T1, h1, h2⟩ := Rd.told noNumP mixedP (specs_none Try.prog) (fun _ _ => rfl) hraw (hk (lN hln) (hk (bF cc0) hn))
  exact ⟨T1, h1, h2⟩
theorem loop17 {a : Option Addr} {c : Nat} {l : List Int} {x : Int} {M : Mem} (hM : MemOk M) (hs : pInts l (.slice a l.length c) M) :
    ∃ e O M', LoopR Try.prog [] (q17.loopAt 0) Try.f17.ntmps (fr [(0, .slice a l.length c), (1, i64 x), (5, i64 ((0 : Nat) : Int))]) M e (fr O) M' ∧ Ext M M' ∧ MemOk M' ∧ ((e = .exit 0 ∧ O = [] ∧ ¬ x ∈ l) ∨ (e = .ret ∧ O = [(4, .bool true)] ∧ x ∈ l)) := by
  have hlen := hs.len
  refine LoopR.forE (σ := Unit) (n := l.length) (Inv := fun i _ M1 => Ext M M1 ∧ MemOk M1 ∧ ¬ x ∈ l.take i)
    (F := fun i _ => [(0, .slice a l.length c), (1, i64 x), (5, i64 ((i : Nat) : Int))])
    (Post := fun e O M' => Ext M M' ∧ MemOk M' ∧ ((e = .exit 0 ∧ O = [] ∧ ¬ x ∈ l) ∨ (e = .ret ∧ O = [(4, .bool true)] ∧ x ∈ l))) ?_ ?_ l.length 0 (by omega) (s := ()) ⟨Ext.refl M, hM, by simp⟩
  · rintro i _ M1 hi ⟨X, hM1, hall⟩
    obtain ⟨bb, o, rfl, _⟩ := form_pos hs (by omega)
    have ht : l[i]? = some l[i] := List.getElem?_eq_getElem hi
    have hld := ld_one (P := Try.prog) (ty := 3) hs ht rfl dC3
    by_cases hf : l[i] = x
    · obtain ⟨T1, h1, h2⟩ := r17r bb o l.length c i x l[i] (M := M1) X (decide_eq_true (by omega)) (by simp [hf]) hld
      exact .inr ⟨_, [(4, .bool true)], T1, M1, h1, by simp, h2, X, hM1, .inr ⟨rfl, rfl, hf ▸ List.getElem_mem hi⟩⟩
    · obtain ⟨T1, h1, h2⟩ := r17n bb o l.length c i x l[i] (M := M1) X (decide_eq_true (by omega)) (by simp [hf]) hld
      rw [wrap_succ (by omega)] at h2
      refine .inl ⟨(), T1, M1, h1, h2, X, hM1, ?_⟩
      rw [List.take_succ_eq_append_getElem hi, List.mem_append, List.mem_singleton]
      rintro (h | h)
      · exact hall h
      · exact hf h.symm
  · rintro _ M1 ⟨X, hM1, hall⟩
    obtain ⟨T1, h1, h2⟩ := r17x a l.length c l.length x (M := M1) hs.ln (decide_eq_false (by omega))
    refine ⟨_, [], T1, M1, h1, by simp, h2, X, hM1, .inl ⟨rfl, rfl, ?_⟩⟩
    rw [List.take_length] at hall
    exact hall
theorem loop17_t {a : Option Addr} {c : Nat} {l : List Int} {x : Int} {M : Mem} (hM : MemOk M) (hs : pInts l (.slice a l.length c) M) (h : decide (x ∈ l) = true) :
    ∃ M', LoopR Try.prog [] (q17.loopAt 0) Try.f17.ntmps (fr [(0, .slice a l.length c), (1, i64 x), (5, i64 ((0 : Nat) : Int))]) M .ret (fr [(4, .bool true)]) M' ∧ Ext M M' ∧ MemOk M' := by
  obtain ⟨e, O, M', h1, h2, h3, h4 | h4⟩ := loop17 hM hs
  · exact absurd (of_decide_eq_true h) h4.2.2
  · obtain ⟨rfl, rfl, _⟩ := h4; exact ⟨M', h1, h2, h3⟩
theorem loop17_f {a : Option Addr} {c : Nat} {l : List Int} {x : Int} {M : Mem} (hM : MemOk M) (hs : pInts l (.slice a l.length c) M) (h : decide (x ∈ l) = false) :
    ∃ M', LoopR Try.prog [] (q17.loopAt 0) Try.f17.ntmps (fr [(0, .slice a l.length c), (1, i64 x), (5, i64 ((0 : Nat) : Int))]) M (.exit 0) (fr []) M' ∧ Ext M M' ∧ MemOk M' := by
  obtain ⟨e, O, M', h1, h2, h3, h4 | h4⟩ := loop17 hM hs
  · obtain ⟨rfl, rfl, _⟩ := h4; exact ⟨M', h1, h2, h3⟩
  · exact absurd h4.2.2 (of_decide_eq_false h)
theorem rK17 : Try.f17.results = #[.tmp 4] := by kernel_rfl
theorem w17t_raw (a1 : Option Addr) (c1 : Nat) (l : List Int) (x : Int) (M : Mem) (M1 : Mem) : oT Try.prog [0] 60 Try.f17 q17 [(.slice a1 l.length c1), (i64 x)] M [.blk 4 [0, 1, 5] .ret (fr [(4, (.bool true))]) M1] 4 = some (.ret, some (.bool true), M1, [.blk 0 (.loop (q17.loopAt 0)) Try.f17.ntmps [0, 1, 5] [some (.slice a1 l.length c1), some (i64 x), some (i64 0)] M .ret (fr [(4, (.bool true))]) M1]) := by kernel_rfl
theorem w17t (a1 : Option Addr) (c1 : Nat) (l : List Int) (x : Int) {M : Mem} (hM : MemOk M) (h1 : pInts l (.slice a1 l.length c1) M) (cc0 : (decide (x ∈ l)) = true) : ∃ v_ M', Ev Try.prog [] 17 [(.slice a1 l.length c1), (i64 x)] M v_ M' ∧ Ext M M' ∧ MemOk M' ∧ v_ = (.bool true) := by
  obtain ⟨M1, hL2, E3, hM4⟩ := loop17_t hM (AP.Ext (R := pInts) h1 (Ext.refl M)) cc0
  have nx5 := E3.next
  have X6 := (Ext.refl M).trans E3
  have hraw := w17t_raw a1 c1 l x M  M1
  exact ⟨(.bool true), M1, Ev.told_tmp noNumP mixedP Try.func17 q17_ok (by kernel_rfl) rK17 (fun B => specsB_ok (l := []) (fun p hp => by cases hp) (k := [(0, bone (.loop (q17.loopAt 0)) Try.f17.ntmps [0, 1, 5] [some (.slice a1 l.length c1), some (i64 x), some (i64 0)] M .ret (fr [(4, (.bool true))]) M1)]) (fun p hp => by simp only [List.mem_cons, List.not_mem_nil, or_false] at hp; rcases hp with rfl <;> first | exact BlkOk.loop noNumP mixedP hL2)) (fun _ h => blksF_one h) hraw (hk (q_blk rfl) hn), X6, hM4, rfl⟩
theorem w17f_raw (a1 : Option Addr) (c1 : Nat) (l : List Int) (x : Int) (M : Mem) (M1 : Mem) : oT Try.prog [0] 60 Try.f17 q17 [(.slice a1 l.length c1), (i64 x)] M [.blk 4 [0, 1, 5] .normal (fr []) M1] 4 = some (.ret, some (.bool false), M1, [.blk 0 (.loop (q17.loopAt 0)) Try.f17.ntmps [0, 1, 5] [some (.slice a1 l.length c1), some (i64 x), some (i64 0)] M .normal (fr []) M1]) := by kernel_rfl
theorem w17f (a1 : Option Addr) (c1 : Nat) (l : List Int) (x : Int) {M : Mem} (hM : MemOk M) (h1 : pInts l (.slice a1 l.length c1) M) (cc0 : (decide (x ∈ l)) = false) : ∃ v_ M', Ev Try.prog [] 17 [(.slice a1 l.length c1), (i64 x)] M v_ M' ∧ Ext M M' ∧ MemOk M' ∧ v_ = (.bool false) := by
  obtain ⟨M1, hL2, E3, hM4⟩ := loop17_f hM (AP.Ext (R := pInts) h1 (Ext.refl M)) cc0
  have nx5 := E3.next
  have X6 := (Ext.refl M).trans E3
  have hraw := w17f_raw a1 c1 l x M  M1
  exact ⟨(.bool false), M1, Ev.told_tmp noNumP mixedP Try.func17 q17_ok (by kernel_rfl) rK17 (fun B => specsB_ok (l := []) (fun p hp => by cases hp) (k := [(0, bone (.loop (q17.loopAt 0)) Try.f17.ntmps [0, 1, 5] [some (.slice a1 l.length c1), some (i64 x), some (i64 0)] M .normal (fr []) M1)]) (fun p hp => by simp only [List.mem_cons, List.not_mem_nil, or_false] at hp; rcases hp with rfl <;> first | exact BlkOk.loop noNumP mixedP hL2)) (fun _ h => blksF_one h) hraw (hk (q_blk rfl) hn), X6, hM4, rfl⟩
abbrev Q17 := FC (as2 pInts pI) (plain pB) (fun x => decide (x.2 ∈ x.1))
theorem con17 {x : List Int × Int} {lv : List Value} {M : Mem} (hM : MemOk M) (h : (as2 pInts pI) x lv M) : ∃ v M', Con Try.prog [] 17 Q17 lv M v M' := by
  refine FC.con h ?_
  obtain ⟨g0, g1, rfl, k0, k1⟩ := h
  obtain ⟨l, x⟩ := x
  obtain ⟨a1, c1, rfl⟩ := GRowsAt.form k0
  obtain rfl := k1
  simp only at k0 ⊢
  cases hd : decide (x ∈ l) with
  | true =>
    obtain ⟨v, M', h1, h2, _, h3⟩ := w17t a1 c1 l x hM k0 hd
    exact ⟨v, M', h1, h2, h3⟩
  | false =>
    obtain ⟨v, M', h1, h2, _, h3⟩ := w17f a1 c1 l x hM k0 hd
    exact ⟨v, M', h1, h2, h3⟩
theorem r12n_raw (bb o m c bb2 o2 c2 i : Nat) (x y : Int) (M : Mem)  : oR Try.prog [] 51 Try.f20 (q20.loopAt 0) [(0, (sli bb o m c)), (1, (sli bb2 o2 m c2)), (5, (i64 (((i : Nat) : Int))))] M [ttT 8, ttT 14, ttL 16 (i64 x), ttT 22, ttL 24 (i64 y), ttF 27] [0, 1, 5] = some (.normal, [some (sli bb o m c), some (sli bb2 o2 m c2), some (i64 (IntKind.wrap .i64 ((((i : Nat) : Int)) + (1 : Int))))], M, [qT (decide ((((i : Nat) : Int)) < (((m : Nat) : Int)))), .q (.inb (((i : Nat) : Int)) m) (ansB true), qL 3 bb (o + (((i : Nat) : Int) : Int).toNat * 1) M (i64 x), .q (.inb (((i : Nat) : Int)) m) (ansB true), qL 3 bb2 (o2 + (((i : Nat) : Int) : Int).toNat * 1) M (i64 y), qF (!(x == y))]) := by kernel_rfl
theorem r12n (bb o m c bb2 o2 c2 i : Nat) (x y : Int) {M : Mem} {M0 : Mem} (X0 : Ext M0 M) (cc0 : (decide ((((i : Nat) : Int)) < (((m : Nat) : Int)))) = true) (cc1 : (x == y) = true) (hld0 : aload Try.prog 3 ⟨bb, o + (((i : Nat) : Int) : Int).toNat * 1, none⟩ M0 = some (i64 x)) (hld1 : aload Try.prog 3 ⟨bb2, o2 + (((i : Nat) : Int) : Int).toNat * 1, none⟩ M0 = some (i64 y)) : ∃ T1, Rd Try.prog [] (q20.loopAt 0) Try.f20.ntmps (fr [(0, (sli bb o m c)), (1, (sli bb2 o2 m c2)), (5, (i64 (((i : Nat) : Int))))]) M .normal T1 M ∧ [0, 1, 5].map T1.get = [some (sli bb o m c), some (sli bb2 o2 m c2), some (i64 (IntKind.wrap .i64 ((((i : Nat) : Int)) + (1 : Int))))] := by
  have hraw := r12n_raw bb o m c bb2 o2 c2 i x y M  
  obtain ⟨T1, h1, h2⟩ := Rd.told noNumP mixedP (specs_none Try.prog) (fun _ _ => rfl) hraw (hk (bT cc0) (hk (q_inb (by omega) (by simp at cc0; omega)) (hk (q_ld (aload_ext X0 hld0)) (hk (q_inb (by omega) (by simp at cc0; omega)) (hk (q_ld (aload_ext X0 hld1)) (hk (bF (by rw [cc1]; rfl)) hn))))))
  exact ⟨T1, h1, h2⟩
theorem r12r_raw (bb o m c bb2 o2 c2 i : Nat) (x y : Int) (M : Mem)  : oR Try.prog [] 51 Try.f20 (q20.loopAt 0) [(0, (sli bb o m c)), (1, (sli bb2 o2 m c2)), (5, (i64 (((i : Nat) : Int))))] M [ttT 8, ttT 14, ttL 16 (i64 x), ttT 22, ttL 24 (i64 y), ttT 27] [4] = some (.ret, [some (.bool false)], M, [qT (decide ((((i : Nat) : Int)) < (((m : Nat) : Int)))), .q (.inb (((i : Nat) : Int)) m) (ansB true), qL 3 bb (o + (((i : Nat) : Int) : Int).toNat * 1) M (i64 x), .q (.inb (((i : Nat) : Int)) m) (ansB true), qL 3 bb2 (o2 + (((i : Nat) : Int) : Int).toNat * 1) M (i64 y), qT (!(x == y))]) := by kernel_rfl
theorem r12r (bb o m c bb2 o2 c2 i : Nat) (x y : Int) {M : Mem} {M0 : Mem} (X0 : Ext M0 M) (cc0 : (decide ((((i : Nat) : Int)) < (((m : Nat) : Int)))) = true) (cc1 : (x == y) = false) (hld0 : aload Try.prog 3 ⟨bb, o + (((i : Nat) : Int) : Int).toNat * 1, none⟩ M0 = some (i64 x)) (hld1 : aload Try.prog 3 ⟨bb2, o2 + (((i : Nat) : Int) : Int).toNat * 1, none⟩ M0 = some (i64 y)) : ∃ T1, Rd Try.prog [] (q20.loopAt 0) Try.f20.ntmps (fr [(0, (sli bb o m c)), (1, (sli bb2 o2 m c2)), (5, (i64 (((i : Nat) : Int))))]) M .ret T1 M ∧ [4].map T1.get = [some (.bool false)] := by
  have hraw := r12r_raw bb o m c bb2 o2 c2 i x y M  
  obtain ⟨T1, h1, h2⟩ := Rd.told noNumP mixedP (specs_none Try.prog) (fun _ _ => rfl) hraw (hk (bT cc0) (hk (q_inb (by omega) (by simp at cc0; omega)) (hk (q_ld (aload_ext X0 hld0)) (hk (q_inb (by omega) (by simp at cc0; omega)) (hk (q_ld (aload_ext X0 hld1)) (hk (bT (by rw [cc1]; rfl)) hn))))))
  exact ⟨T1, h1, h2⟩
theorem r12x_raw (a : Option Addr) (m c i : Nat) (V2 : Value) (M : Mem)  : oR Try.prog [] 51 Try.f20 (q20.loopAt 0) [(0, (.slice a m c)), (1, V2), (5, (i64 (((i : Nat) : Int))))] M [ttT 5, ttF 8] [] = some ((.exit 0), [], M, [.ln a m c, qF (decide ((((i : Nat) : Int)) < (((m : Nat) : Int))))]) := by kernel_rfl
theorem r12x (a : Option Addr) (m c i : Nat) (V2 : Value) {M : Mem} (hln : a.isNone = true → m = 0 ∧ c = 0) (cc0 : (decide ((((i : Nat) : Int)) < (((m : Nat) : Int)))) = false) : ∃ T1, Rd Try.prog [] (q20.loopAt 0) Try.f20.ntmps (fr [(0, (.slice a m c)), (1, V2), (5, (i64 (((i : Nat) : Int))))]) M (.exit 0) T1 M ∧ [].map T1.get = [] := by
  have hraw := r12x_raw a m c i V2 M  
  obtain ⟨T1, h1, h2⟩ := Rd.told noNumP mixedP (specs_none Try.prog) (fun _ _ => rfl) hraw (hk (lN hln) (hk (bF cc0) hn))
  exact ⟨T1, h1, h2⟩
theorem loop12 {a a2 : Option Addr} {c c2 : Nat} {l k : List Int} {M : Mem} (hM : MemOk M) (hs : pInts l (.slice a l.length c) M) (hs2 : pInts k (.slice a2 l.length c2) M) :
    ∃ e O M', LoopR Try.prog [] (q20.loopAt 0) Try.f20.ntmps (fr [(0, .slice a l.length c), (1, .slice a2 l.length c2), (5, i64 ((0 : Nat) : Int))]) M e (fr O) M' ∧ Ext M M' ∧ MemOk M' ∧ ((e = .exit 0 ∧ O = [] ∧ l = k) ∨ (e = .ret ∧ O = [(4, .bool false)] ∧ l ≠ k)) := by
  have hlen := hs.len
  have hlk : l.length = k.length := GRowsAt.len_eq hs2
  refine LoopR.forE (σ := Unit) (n := l.length) (Inv := fun i _ M1 => Ext M M1 ∧ MemOk M1 ∧ l.take i = k.take i)
    (F := fun i _ => [(0, .slice a l.length c), (1, .slice a2 l.length c2), (5, i64 ((i : Nat) : Int))])
    (Post := fun e O M' => Ext M M' ∧ MemOk M' ∧ ((e = .exit 0 ∧ O = [] ∧ l = k) ∨ (e = .ret ∧ O = [(4, .bool false)] ∧ l ≠ k))) ?_ ?_ l.length 0 (by omega) (s := ()) ⟨Ext.refl M, hM, rfl⟩
  · rintro i _ M1 hi ⟨X, hM1, hall⟩
    obtain ⟨bb, o, rfl, _⟩ := form_pos hs (by omega)
    obtain ⟨bb2, o2, rfl, _⟩ := form_pos hs2 (by omega)
    have ht : l[i]? = some l[i] := List.getElem?_eq_getElem hi
    have ht2 : k[i]? = some k[i] := List.getElem?_eq_getElem (by omega)
    have hld := ld_one (P := Try.prog) (ty := 3) hs ht rfl dC3
    have hld2 := ld_one (P := Try.prog) (ty := 3) hs2 ht2 rfl dC3
    by_cases hf : l[i] = k[i]
    · obtain ⟨T1, h1, h2⟩ := r12n bb o l.length c bb2 o2 c2 i l[i] k[i] (M := M1) X (decide_eq_true (by omega)) (by simp [hf]) hld hld2
      rw [wrap_succ (by omega)] at h2
      refine .inl ⟨(), T1, M1, h1, h2, X, hM1, ?_⟩
      rw [List.take_succ_eq_append_getElem hi, List.take_succ_eq_append_getElem (by omega), hall, hf]
    · obtain ⟨T1, h1, h2⟩ := r12r bb o l.length c bb2 o2 c2 i l[i] k[i] (M := M1) X (decide_eq_true (by omega)) (by simp [hf]) hld hld2
      refine .inr ⟨_, [(4, .bool false)], T1, M1, h1, by simp, h2, X, hM1, .inr ⟨rfl, rfl, fun e => hf ?_⟩⟩
      subst e; rfl
  · rintro _ M1 ⟨X, hM1, hall⟩
    obtain ⟨T1, h1, h2⟩ := r12x a l.length c l.length (.slice a2 l.length c2) (M := M1) hs.ln (decide_eq_false (by omega))
    refine ⟨_, [], T1, M1, h1, by simp, h2, X, hM1, .inl ⟨rfl, rfl, ?_⟩⟩
    rw [List.take_length, hlk, List.take_length] at hall
    exact hall
theorem loop12_t {a a2 : Option Addr} {c c2 : Nat} {l k : List Int} {M : Mem} (hM : MemOk M) (hs : pInts l (.slice a l.length c) M) (hs2 : pInts k (.slice a2 l.length c2) M) (h : decide (l = k) = true) :
    ∃ M', LoopR Try.prog [] (q20.loopAt 0) Try.f20.ntmps (fr [(0, .slice a l.length c), (1, .slice a2 l.length c2), (5, i64 ((0 : Nat) : Int))]) M (.exit 0) (fr []) M' ∧ Ext M M' ∧ MemOk M' := by
  obtain ⟨e, O, M', h1, h2, h3, h4 | h4⟩ := loop12 hM hs hs2
  · obtain ⟨rfl, rfl, _⟩ := h4; exact ⟨M', h1, h2, h3⟩
  · exact absurd (of_decide_eq_true h) h4.2.2
theorem loop12_f {a a2 : Option Addr} {c c2 : Nat} {l k : List Int} {M : Mem} (hM : MemOk M) (hs : pInts l (.slice a l.length c) M) (hs2 : pInts k (.slice a2 l.length c2) M) (h : decide (l = k) = false) :
    ∃ M', LoopR Try.prog [] (q20.loopAt 0) Try.f20.ntmps (fr [(0, .slice a l.length c), (1, .slice a2 l.length c2), (5, i64 ((0 : Nat) : Int))]) M .ret (fr [(4, .bool false)]) M' ∧ Ext M M' ∧ MemOk M' := by
  obtain ⟨e, O, M', h1, h2, h3, h4 | h4⟩ := loop12 hM hs hs2
  · exact absurd h4.2.2 (of_decide_eq_false h)
  · obtain ⟨rfl, rfl, _⟩ := h4; exact ⟨M', h1, h2, h3⟩
theorem rK20 : Try.f20.results = #[.tmp 4] := by kernel_rfl
theorem w12Et_raw (a1 : Option Addr) (c1 : Nat) (a2 : Option Addr) (c2 : Nat) (l k : List Int) (M : Mem) (M1 : Mem) : oT Try.prog [0] 60 Try.f20 q20 [(.slice a1 l.length c1), (.slice a2 l.length c2)] M [ttT 5, ttT 9, ttF 12, .blk 15 [0, 1, 5] .normal (fr []) M1] 4 = some (.ret, some (.bool true), M1, [.ln a1 l.length c1, .ln a2 l.length c2, qF (!((((l.length : Nat) : Int)) == (((l.length : Nat) : Int)))), .blk 0 (.loop (q20.loopAt 0)) Try.f20.ntmps [0, 1, 5] [some (.slice a1 l.length c1), some (.slice a2 l.length c2), some (i64 0)] M .normal (fr []) M1]) := by kernel_rfl
theorem w12Et (a1 : Option Addr) (c1 : Nat) (a2 : Option Addr) (c2 : Nat) (l k : List Int) {M : Mem} (hM : MemOk M) (h1 : pInts l (.slice a1 l.length c1) M) (h2 : pInts k (.slice a2 l.length c2) M) (cc0 : (decide (l = k)) = true) : ∃ v_ M', Ev Try.prog [] 20 [(.slice a1 l.length c1), (.slice a2 l.length c2)] M v_ M' ∧ Ext M M' ∧ MemOk M' ∧ v_ = (.bool true) := by
  obtain ⟨M1, hL2, E3, hM4⟩ := loop12_t hM (AP.Ext (R := pInts) h1 (Ext.refl M)) (AP.Ext (R := pInts) h2 (Ext.refl M)) cc0
  have nx5 := E3.next
  have X6 := (Ext.refl M).trans E3
  have hraw := w12Et_raw a1 c1 a2 c2 l k M  M1
  exact ⟨(.bool true), M1, Ev.told_tmp noNumP mixedP Try.func20 q20_ok (by kernel_rfl) rK20 (fun B => specsB_ok (l := []) (fun p hp => by cases hp) (k := [(0, bone (.loop (q20.loopAt 0)) Try.f20.ntmps [0, 1, 5] [some (.slice a1 l.length c1), some (.slice a2 l.length c2), some (i64 0)] M .normal (fr []) M1)]) (fun p hp => by simp only [List.mem_cons, List.not_mem_nil, or_false] at hp; rcases hp with rfl <;> first | exact BlkOk.loop noNumP mixedP hL2)) (fun _ h => blksF_one h) hraw (hk (lN h1.ln) (hk (lN h2.ln) (hk (bF (by first | simp_all | (simp; omega))) (hk (q_blk rfl) hn)))), X6, hM4, rfl⟩
theorem w12Ef_raw (a1 : Option Addr) (c1 : Nat) (a2 : Option Addr) (c2 : Nat) (l k : List Int) (M : Mem) (M1 : Mem) : oT Try.prog [0] 60 Try.f20 q20 [(.slice a1 l.length c1), (.slice a2 l.length c2)] M [ttT 5, ttT 9, ttF 12, .blk 15 [0, 1, 5] .ret (fr [(4, (.bool false))]) M1] 4 = some (.ret, some (.bool false), M1, [.ln a1 l.length c1, .ln a2 l.length c2, qF (!((((l.length : Nat) : Int)) == (((l.length : Nat) : Int)))), .blk 0 (.loop (q20.loopAt 0)) Try.f20.ntmps [0, 1, 5] [some (.slice a1 l.length c1), some (.slice a2 l.length c2), some (i64 0)] M .ret (fr [(4, (.bool false))]) M1]) := by kernel_rfl
theorem w12Ef (a1 : Option Addr) (c1 : Nat) (a2 : Option Addr) (c2 : Nat) (l k : List Int) {M : Mem} (hM : MemOk M) (h1 : pInts l (.slice a1 l.length c1) M) (h2 : pInts k (.slice a2 l.length c2) M) (cc0 : (decide (l = k)) = false) : ∃ v_ M', Ev Try.prog [] 20 [(.slice a1 l.length c1), (.slice a2 l.length c2)] M v_ M' ∧ Ext M M' ∧ MemOk M' ∧ v_ = (.bool false) := by
  obtain ⟨M1, hL2, E3, hM4⟩ := loop12_f hM (AP.Ext (R := pInts) h1 (Ext.refl M)) (AP.Ext (R := pInts) h2 (Ext.refl M)) cc0
  have nx5 := E3.next
  have X6 := (Ext.refl M).trans E3
  have hraw := w12Ef_raw a1 c1 a2 c2 l k M  M1
  exact ⟨(.bool false), M1, Ev.told_tmp noNumP mixedP Try.func20 q20_ok (by kernel_rfl) rK20 (fun B => specsB_ok (l := []) (fun p hp => by cases hp) (k := [(0, bone (.loop (q20.loopAt 0)) Try.f20.ntmps [0, 1, 5] [some (.slice a1 l.length c1), some (.slice a2 l.length c2), some (i64 0)] M .ret (fr [(4, (.bool false))]) M1)]) (fun p hp => by simp only [List.mem_cons, List.not_mem_nil, or_false] at hp; rcases hp with rfl <;> first | exact BlkOk.loop noNumP mixedP hL2)) (fun _ h => blksF_one h) hraw (hk (lN h1.ln) (hk (lN h2.ln) (hk (bF (by first | simp_all | (simp; omega))) (hk (q_blk rfl) hn)))), X6, hM4, rfl⟩
theorem w12D_raw (a1 : Option Addr) (c1 : Nat) (a2 : Option Addr) (c2 : Nat) (l k : List Int) (M : Mem)  : oT Try.prog [] 51 Try.f20 q20 [(.slice a1 l.length c1), (.slice a2 k.length c2)] M [ttT 5, ttT 9, ttT 12] 4 = some (.ret, some (.bool false), M, [.ln a1 l.length c1, .ln a2 k.length c2, qT (!((((l.length : Nat) : Int)) == (((k.length : Nat) : Int))))]) := by kernel_rfl
theorem w12D (a1 : Option Addr) (c1 : Nat) (a2 : Option Addr) (c2 : Nat) (l k : List Int) {M : Mem} (hM : MemOk M) (h1 : pInts l (.slice a1 l.length c1) M) (h2 : pInts k (.slice a2 k.length c2) M) (cc0 : ((((l.length : Nat) : Int)) == (((k.length : Nat) : Int))) = false) : ∃ v_ M', Ev Try.prog [] 20 [(.slice a1 l.length c1), (.slice a2 k.length c2)] M v_ M' ∧ Ext M M' ∧ MemOk M' ∧ v_ = (.bool false) := by
  have hraw := w12D_raw a1 c1 a2 c2 l k M  
  exact ⟨(.bool false), M, Ev.told_tmp noNumP mixedP Try.func20 q20_ok (by kernel_rfl) rK20 (specs_none Try.prog) (fun _ _ => rfl) hraw (hk (lN h1.ln) (hk (lN h2.ln) (hk (bT (by rw [cc0]; rfl)) hn))), (Ext.refl M), hM, rfl⟩
abbrev Q20 := FC (as2 pInts pInts) (plain pB) (fun x => decide (x.1 = x.2))
theorem con20 {x : List Int × List Int} {lv : List Value} {M : Mem} (hM : MemOk M) (h : (as2 pInts pInts) x lv M) : ∃ v M', Con Try.prog [] 20 Q20 lv M v M' := by
  refine FC.con h ?_
  obtain ⟨g0, g1, rfl, k0, k1⟩ := h
  obtain ⟨l, k⟩ := x
  obtain ⟨a1, c1, rfl⟩ := GRowsAt.form k0
  obtain ⟨a2, c2, rfl⟩ := GRowsAt.form k1
  simp only at k0 k1 ⊢
  by_cases hl : k.length = l.length
  · rw [hl] at k1 ⊢
    cases hd : decide (l = k) with
    | true =>
      obtain ⟨v, M', h1, h2, _, h3⟩ := w12Et a1 c1 a2 c2 l k hM k0 k1 hd
      exact ⟨v, M', h1, h2, h3⟩
    | false =>
      obtain ⟨v, M', h1, h2, _, h3⟩ := w12Ef a1 c1 a2 c2 l k hM k0 k1 hd
      exact ⟨v, M', h1, h2, h3⟩
  · obtain ⟨v, M', h1, h2, _, h3⟩ := w12D a1 c1 a2 c2 l k hM k0 k1 (by simp; omega)
    rw [show decide (l = k) = false from decide_eq_false fun e => hl (by rw [e])]
    exact ⟨v, M', h1, h2, h3⟩
end Go.Proofs.Ytipnhelkganmdaa
