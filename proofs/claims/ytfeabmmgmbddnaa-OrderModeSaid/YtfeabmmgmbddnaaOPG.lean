/-
  Package order: each of its laws for every argument; no conditions. The last text states which.
-/
import Derived.Test.YtfeabmmgmbddnaaOPF
open Go Go.Am Go.Proofs
namespace Go.Proofs.Ytfeabmmgmbddnaa
set_option maxRecDepth 100000
set_option linter.unusedVariables false
set_option linter.unusedSimpArgs false
theorem loop11 {b rb n : Nat} {vl : Value} {l : List E4} {M : Mem} (hM : MemOk M) (gb : M.get b = some ⟨[i64 ((n : Nat) : Int), vl], 26, 2, 0, true⟩) (href : pRefA 53 (n, l) (pt rb 0) M) (hok : ∀ e ∈ l, okM e) (hn : n ≤ 60) :
    ∃ S M', LoopR Try.prog [] (q11.loopAt 0) Try.f11.ntmps (fr [(1, pt b 0), (3, pt rb 0), (4, sln), (5, i64 ((0 : Nat) : Int))]) M (.exit 0) (fr [(4, S)]) M' ∧ Ext M M' ∧ MemOk M' ∧ AccB M M' S (linksR l n) := by
  have hb := Mem.lt_of_get gb
  obtain ⟨S, M', h1, h2, h3, _, h4⟩ := LoopR.for (P := Try.prog) (GL := []) (b := q11.loopAt 0) (nt := Try.f11.ntmps) (id := 0) (σ := Value) (n := n) (Inv := fun i S M1 => Ext M M1 ∧ MemOk M1 ∧ M1.get b = some ⟨[i64 ((n : Nat) : Int), vl], 26, 2, 0, true⟩ ∧ AccB M M1 S (linksR l i))
    (F := fun i S => [(1, pt b 0), (3, pt rb 0), (4, S), (5, i64 ((i : Nat) : Int))])
    (O := fun S => [(4, S)])
    (by
      rintro i S M1 hi ⟨X1, hM1, hg1, hA⟩
      rw [linksR_succ]
      rcases hA with ⟨rfl, h0⟩ | ⟨r, rfl, h0, hr, hg⟩
      · obtain ⟨T1, M2, b2, h1, h2, h3, h4, h5, h6, h7, _⟩ := r11N b rb n i vl l hM1 X1 hg1 href hok (decide_eq_true (by omega))
        rw [wrap_succ (by omega)] at h2
        exact ⟨_, T1, M2, h1, h2, h3, h4, h5, .inr ⟨b2, by rw [h0]; rfl, by simp, h6, by rw [h7, h0]; rfl⟩⟩
      · have hlen : (linksR l i).length = i := by simp [linksR]
        obtain ⟨T1, M2, b2, h1, h2, h3, h4, h5, h6, h7, _⟩ := r11G b rb n i vl l r (linksR l i).length _ hM1 X1 hg1 href hok hr hg (by omega) (decide_eq_true (by omega)) ⟨by omega, by simp⟩
        rw [wrap_succ (by omega)] at h2
        exact ⟨_, T1, M2, h1, h2, h3, h4, h5, .inr ⟨b2, by rw [List.length_append]; rfl, by simp, h6, by rw [h7, List.map_append]; rfl⟩⟩)
    (by
      rintro S M1 ⟨X1, hM1, hg1, _⟩
      obtain ⟨T1, h1, h2⟩ := r11x b rb n n S vl hg1 (decide_eq_false (by omega))
      exact ⟨T1, h1, h2⟩)
    n 0 (by omega) (s := sln) (M := M) ⟨Ext.refl M, hM, gb, .inl ⟨rfl, rfl⟩⟩
  exact ⟨S, M', h1, h2, h3, h4⟩
theorem rK11 : Try.f11.results = #[.tmp 2] := by kernel_rfl
theorem hS11_15 (B : Bd) : ∀ p ∈ ([(15, pick (Con Try.prog [] 15 Q15))] : List (FuncId × (List Value → Mem → Option (Value × Mem)))), SpecOk Try.prog [] B p.1 p.2 := (fun p hp => by simp only [List.mem_cons, List.not_mem_nil, or_false] at hp; rcases hp with rfl <;> first | exact Con.ok _)
theorem w11_raw (n : Nat) (al : Option Addr) (cl : Nat) (l : List E4) (M : Mem) (b1 : Nat) (M2 : Mem) (rb10 : Nat) (M14 : Mem) (S24 : Value) (M26 : Mem) : oT Try.prog [0] 60 Try.f11 q11 [(.agg ⟨[(i64 (((n : Nat) : Int))), (.slice al l.length cl)]⟩)] M [ttV 1 (pt b1 0) M2, ttL 5 (.agg ⟨[(i64 (((n : Nat) : Int))), (.slice al l.length cl)]⟩), ttV 7 (pt rb10 0) M14, .blk 14 [1, 3, 4, 5] .normal (fr [(4, S24)]) M26] 2 = some (.ret, some S24, M26, [.eq (abox Try.prog 26 (.agg ⟨[(i64 (((n : Nat) : Int))), (.slice al l.length cl)]⟩) M) (1, .val (pt b1 0), M2), qL 26 b1 0 M2 (.agg ⟨[(i64 (((n : Nat) : Int))), (.slice al l.length cl)]⟩), qC 15 [(.agg ⟨[(i64 (((n : Nat) : Int))), (.slice al l.length cl)]⟩)] M2 (pt rb10 0) M14, .blk 0 (.loop (q11.loopAt 0)) Try.f11.ntmps [1, 3, 4, 5] [some (pt b1 0), some (pt rb10 0), some sln, some (i64 0)] M14 .normal (fr [(4, S24)]) M26]) := by kernel_rfl
theorem w11 (n : Nat) (al : Option Addr) (cl : Nat) (l : List E4) {M : Mem} (hM : MemOk M) (hl : pEdges l (.slice al l.length cl) M) (hokM : ∀ e ∈ l, okM e) (hn60 : n ≤ 60) : ∃ v_ M', Ev Try.prog [] 11 [(.agg ⟨[(i64 (((n : Nat) : Int))), (.slice al l.length cl)]⟩)] M v_ M' ∧ Ext M M' ∧ MemOk M' ∧ newR pBools (linksR l n) M.next v_ M' := by
  obtain ⟨b1, M2, eb3, em4, g5, E6, hM7⟩ := new_t hM ⟨[(i64 (((n : Nat) : Int))), (.slice al l.length cl)], 26, 2, 0, true⟩
  have nb1 : M.next ≤ b1 := by rw [← eb3]; exact (Ext.refl M).next
  have X9 := (Ext.refl M).trans E6
  obtain ⟨w12, N13, M14, p15, l16, e17, E18, hM19, F20⟩ := call_fc (x := (n, l)) hM7 con15 (⟨_, rfl, _, rfl, AP.Ext (R := pEdges) hl X9⟩)
  have g22 := E18.old g5
  have G11 : pRefA 53 (n, l) w12 M14 := F20
  obtain ⟨rb10, _, ew12, _⟩ := id G11
  subst ew12
  have X23 := X9.trans E18
  obtain ⟨S24, M26, hL27, E28, hM29, A25⟩ := loop11 hM19 g22 G11 hokM hn60
  have X33 := X23.trans E28
  have hraw := w11_raw n al cl l M  b1 M2 rb10 M14 S24 M26
  exact ⟨S24, M26, Ev.told_tmp noNumP mixedP Try.func11 q11_ok (by kernel_rfl) rK11 (fun B => specsB_ok (hS11_15 B) (k := [(0, bone (.loop (q11.loopAt 0)) Try.f11.ntmps [1, 3, 4, 5] [some (pt b1 0), some (pt rb10 0), some sln, some (i64 0)] M14 .normal (fr [(4, S24)]) M26)]) (fun p hp => by simp only [List.mem_cons, List.not_mem_nil, or_false] at hp; rcases hp with rfl <;> first | exact BlkOk.loop noNumP mixedP hL27)) (fun _ h => blksF_one h) hraw (hk (q_eq (by rw [← eb3, ← em4]; kernel_rfl) Nat.one_ne_zero) (hk (lA ⟨dA26, dS26⟩ g5 rfl) (hk (q_call rfl p15 l16 e17) (hk (q_blk rfl) hn)))), X33, hM29, AccB.new A25 (by simp [linksR]; omega) (X23).next⟩
abbrev Q11 := FC (asP (as1 pNetN) fun x => chkN ((x.1 : Nat) : Int) x.2 = true) (newR pBools) (fun x => linksR x.2 x.1)
theorem con11 {x : Nat × List E4} {lv : List Value} {M : Mem} (hM : MemOk M) (h : (asP (as1 pNetN) fun x : Nat × List E4 => chkN ((x.1 : Nat) : Int) x.2 = true) x lv M) : ∃ v M', Con Try.prog [] 11 Q11 lv M v M' := by
  refine FC.con h ?_
  obtain ⟨⟨g0, rfl, k0⟩, hck⟩ := h
  obtain ⟨n, l⟩ := x
  obtain ⟨_, rfl, hl⟩ := k0
  obtain ⟨a, c, rfl⟩ := GRowsAt.form hl
  obtain ⟨v, M', h1, h2, _, h3⟩ := w11 n a c l hM hl (fun e he => ((chkN_spec hck).2.2.2 e he).2.2.2.2) (by have := (chkN_spec hck).2.1; simp only at this ⊢; omega)
  exact ⟨v, M', h1, h2, h3⟩
end Go.Proofs.Ytfeabmmgmbddnaa
