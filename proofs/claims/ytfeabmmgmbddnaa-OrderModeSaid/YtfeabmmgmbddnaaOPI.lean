/-
  Package order: each of its laws for every argument; no conditions. The last text states which.
-/
import Derived.Test.YtfeabmmgmbddnaaOPH
open Go Go.Am Go.Proofs
namespace Go.Proofs.Ytfeabmmgmbddnaa
set_option maxRecDepth 100000
set_option linter.unusedVariables false
set_option linter.unusedSimpArgs false
theorem rK14 : Try.f14.results = #[.tmp 2] := by kernel_rfl
theorem hS14_11_15 (B : Bd) : ∀ p ∈ ([(11, pick (Con Try.prog [] 11 Q11)), (15, pick (Con Try.prog [] 15 Q15))] : List (FuncId × (List Value → Mem → Option (Value × Mem)))), SpecOk Try.prog [] B p.1 p.2 := (fun p hp => by simp only [List.mem_cons, List.not_mem_nil, or_false] at hp; rcases hp with rfl | rfl <;> first | exact Con.ok _)
theorem w14_raw (n : Nat) (al : Option Addr) (cl : Nat) (l : List E4) (M : Mem) (b1 : Nat) (M2 : Mem) (rb16 : Nat) (M20 : Mem) (bi31 : Nat) (oi32 : Nat) (c34 : Nat) (M38 : Mem) (S57 : Value) (M59 : Mem) : oT Try.prog [0] 60 Try.f14 q14 [(.agg ⟨[(i64 (((n : Nat) : Int))), (.slice al l.length cl)]⟩)] M [ttV 1 (pt b1 0) M2, ttL 5 (.agg ⟨[(i64 (((n : Nat) : Int))), (.slice al l.length cl)]⟩), ttV 7 (pt rb16 0) M20, ttL 9 (.agg ⟨[(i64 (((n : Nat) : Int))), (.slice al l.length cl)]⟩), ttV 11 (sli bi31 oi32 n c34) M38, .blk 20 [1, 3, 4, 5, 6] .normal (fr [(5, S57)]) M59] 2 = some (.ret, some S57, M59, [.eq (abox Try.prog 26 (.agg ⟨[(i64 (((n : Nat) : Int))), (.slice al l.length cl)]⟩) M) (1, .val (pt b1 0), M2), qL 26 b1 0 (Mem.mk M2.blks M2.next M2.hide []) (.agg ⟨[(i64 (((n : Nat) : Int))), (.slice al l.length cl)]⟩), qC 15 [(.agg ⟨[(i64 (((n : Nat) : Int))), (.slice al l.length cl)]⟩)] (Mem.mk M2.blks M2.next M2.hide []) (pt rb16 0) M20, qL 26 b1 0 (Mem.mk M20.blks M20.next (hides 0 [⟨1, 1, M2.next, M20.next⟩, ⟨0, 1, M2.next, M2.next⟩] ++ M2.hide) M20.log) (.agg ⟨[(i64 (((n : Nat) : Int))), (.slice al l.length cl)]⟩), qT (Nat.blt b1 M2.next), qC 11 [(.agg ⟨[(i64 (((n : Nat) : Int))), (.slice al l.length cl)]⟩)] (Mem.mk M20.blks M20.next M2.hide M20.log) (sli bi31 oi32 n c34) M38, qT (apartN [b1] M38.log), .blk 0 (.loop (q14.loopAt 0)) Try.f14.ntmps [1, 3, 4, 5, 6] [some (pt b1 0), some (pt rb16 0), some (sli bi31 oi32 n c34), some sln, some (i64 0)] (Mem.mk M38.blks M38.next M2.hide (M38.log ++ M2.log)) .normal (fr [(5, S57)]) M59]) := by kernel_rfl
theorem w14 (n : Nat) (al : Option Addr) (cl : Nat) (l : List E4) {M : Mem} (hM : MemOk M) (hl : pEdges l (.slice al l.length cl) M) (hck : chkN ((n : Nat) : Int) l = true) (hl400 : l.length ≤ 400) (hn60 : n ≤ 60 ∧ 1 ≤ n) : ∃ v_ M', Ev Try.prog [] 14 [(.agg ⟨[(i64 (((n : Nat) : Int))), (.slice al l.length cl)]⟩)] M v_ M' ∧ Ext M M' ∧ MemOk M' ∧ newR pInts (orderR n l) M.next v_ M' := by
  obtain ⟨b1, M2, eb3, em4, g5, E6, hM7⟩ := new_t hM ⟨[(i64 (((n : Nat) : Int))), (.slice al l.length cl)], 26, 2, 0, true⟩
  have nb1 : M.next ≤ b1 := by rw [← eb3]; exact (Ext.refl M).next
  have nx8 := E6.next
  have X9 := (Ext.refl M).trans E6
  obtain ⟨R10, eR11⟩ : ∃ m : Mem, m = Mem.mk M2.blks M2.next M2.hide [] := ⟨_, rfl⟩
  have X12 : Ext (Mem.mk M.blks M.next M.hide []) R10 := by rw [eR11]; exact Ext.aside (X9)
  have lg13 : R10.log = [] := by rw [eR11]
  have nxR10 : R10.next = M2.next := by rw [eR11]
  have hM14 : MemOk R10 := by rw [eR11]; exact MemOk.log hM7
  have ltb1M2 : b1 < M2.next := by have h := Mem.lt_of_get g5; exact h
  have g15 : R10.get b1 = some ⟨[(i64 (((n : Nat) : Int))), (.slice al l.length cl)], 26, 2, 0, true⟩ := by rw [eR11]; exact g5
  have ltb1M20 := Mem.lt_of_get g15
  obtain ⟨w18, N19, M20, p21, l22, e23, E24, hM25, F26⟩ := call_fc (x := (n, l)) hM14 con15 (⟨_, rfl, _, rfl, AP.Ext (R := pEdges) (AP.log (R := pEdges) hl) X12⟩)
  have nx27 := E24.next
  have g28 := E24.old g15
  have G17 : pRefA 53 (n, l) w18 M20 := F26
  obtain ⟨rb16, _, ew18, _⟩ := id G17
  subst ew18
  have lg29 : M20.log = [] := by rw [← e23]; exact lg13
  have X30 := X12.trans E24
  have ltb1M38 := Mem.lt_of_get g28
  obtain ⟨w36, N37, M38, p39, l40, e41, E42, hM43, F44⟩ := call_fc (x := (n, l)) hM25 con11 (⟨⟨_, rfl, _, rfl, AP.Ext (R := pEdges) (AP.log (R := pEdges) hl) X30⟩, hck⟩)
  have nx45 := E42.next
  have F46 := AP.Ext (R := (pRefA 53)) G17 E42
  have g47 := E42.old g28
  have G35 : pBools (linksR l n) w36 (hidx [(0, M20.next)] M38) := hx_of F44
  obtain ⟨a33, c34, ew36⟩ := GRowsAt.form G35
  rw [show (linksR l n).length = n by simp [linksR]] at ew36
  subst ew36
  obtain ⟨bi31, oi32, ea33, _⟩ := form_pos G35 (by simp [linksR]; omega)
  subst ea33
  have lg48 : M38.log = [] := by rw [← e41]; exact lg29
  have X49 := X30.trans E42
  obtain ⟨M50, ef51⟩ : ∃ m : Mem, m = (Mem.mk M38.blks M38.next M38.hide (M38.log ++ M2.log)) := ⟨_, rfl⟩
  have X52 : Ext M M50 := by rw [ef51]; exact Ext.join (X9) (X49)
  have hM53 : MemOk M50 := by rw [ef51]; exact hM43
  have g54 : M50.get b1 = some ⟨[(i64 (((n : Nat) : Int))), (.slice al l.length cl)], 26, 2, 0, true⟩ := by rw [ef51]; exact g47
  have F55 := AP.ext (R := (pRefA 53)) (M' := M50) (fun id b h => by rw [ef51]; exact h) F46
  have F56 := hx_still (R := pBools) (M' := M50) G35 (fun id b h => by rw [ef51]; exact h)
  obtain ⟨S57, M59, hL60, E61, hM62, A58⟩ := loop14 hM53 g54 F55 (hx_out (R := pBools) F56) (AP.Ext (R := pEdges) hl X52) hl400 hn60.1
  have nx63 := E61.next
  have X67 := X52.trans E61
  have hraw := w14_raw n al cl l M  b1 M2 rb16 M20 bi31 oi32 c34 M38 S57 M59
  have rw0 : Mem.mk M2.blks M2.next M2.hide [] = R10 := eR11.symm
  have rw1 : Mem.mk M20.blks M20.next M2.hide M20.log = M20 := by rw [(show M2.hide = M20.hide from ((X9).hide.trans (X30).hide.symm))]
  have rw2 : Mem.mk M20.blks M20.next (hides 0 [⟨1, 1, M2.next, M20.next⟩, ⟨0, 1, M2.next, M2.next⟩] ++ M2.hide) M20.log = hidx (hides 0 [⟨1, 1, M2.next, M20.next⟩, ⟨0, 1, M2.next, M2.next⟩]) M20 := by rw [(show M2.hide = M20.hide from ((X9).hide.trans (X30).hide.symm))]; rfl
  have rw3 : Mem.mk M38.blks M38.next M2.hide M38.log = M38 := by rw [(show M2.hide = M38.hide from ((X9).hide.trans (X49).hide.symm))]
  have rw4 : (Mem.mk M38.blks M38.next M2.hide (M38.log ++ M2.log)) = (Mem.mk M38.blks M38.next M38.hide (M38.log ++ M2.log)) := by rw [(show M2.hide = M38.hide from ((X9).hide.trans (X49).hide.symm))]
  have rw5 : (Mem.mk M38.blks M38.next M38.hide (M38.log ++ M2.log)) = M50 := ef51.symm
  try rw [rw0] at hraw
  try rw [rw1] at hraw
  try rw [rw2] at hraw
  try rw [rw3] at hraw
  try rw [rw4] at hraw
  try rw [rw5] at hraw
  exact ⟨S57, M59, Ev.told_tmp noNumP mixedP Try.func14 q14_ok (by kernel_rfl) rK14 (fun B => specsB_ok (hS14_11_15 B) (k := [(0, bone (.loop (q14.loopAt 0)) Try.f14.ntmps [1, 3, 4, 5, 6] [some (pt b1 0), some (pt rb16 0), some (sli bi31 oi32 n c34), some sln, some (i64 0)] M50 .normal (fr [(5, S57)]) M59)]) (fun p hp => by simp only [List.mem_cons, List.not_mem_nil, or_false] at hp; rcases hp with rfl <;> first | exact BlkOk.loop noNumP mixedP hL60)) (fun _ h => blksF_one h) hraw (hk (q_eq (by rw [← eb3, ← em4]; kernel_rfl) Nat.one_ne_zero) (hk (lA ⟨dA26, dS26⟩ g15 rfl) (hk (q_call rfl p21 l22 e23) (hk (lA ⟨dA26, dS26⟩ (hidx_get.2 ⟨hides_low (by simp; omega), g28⟩) rfl) (hk (q_lt ltb1M2) (hk (q_call rfl p39 l40 e41) (hk (q_apart (by rw [lg48]; simp <;> omega)) (hk (q_blk rfl) hn)))))))), X67, hM62, AccI.new A58 (by have h1 := orderTo_len l n (2 * l.length + 1); have h2 : (2 * l.length + 1) * n ≤ 801 * 60 := Nat.mul_le_mul (by omega) hn60.1; unfold orderR; omega) (X52).next⟩
abbrev Q14 := FC (asP (as1 pNetN) fun x => chkN ((x.1 : Nat) : Int) x.2 = true) (newR pInts) (fun x => orderR x.1 x.2)
theorem con14 {x : Nat × List E4} {lv : List Value} {M : Mem} (hM : MemOk M) (h : (asP (as1 pNetN) fun x : Nat × List E4 => chkN ((x.1 : Nat) : Int) x.2 = true) x lv M) : ∃ v M', Con Try.prog [] 14 Q14 lv M v M' := by
  refine FC.con h ?_
  obtain ⟨⟨g0, rfl, k0⟩, hck⟩ := h
  obtain ⟨n, l⟩ := x
  obtain ⟨_, rfl, hl⟩ := k0
  obtain ⟨a, c, rfl⟩ := GRowsAt.form hl
  obtain ⟨v, M', h1, h2, _, h3⟩ := w14 n a c l hM hl hck (chkN_spec hck).2.2.1 (by have h1 := (chkN_spec hck).1; have h2 := (chkN_spec hck).2.1; simp only at h1 h2 ⊢; omega)
  exact ⟨v, M', h1, h2, h3⟩
end Go.Proofs.Ytfeabmmgmbddnaa
