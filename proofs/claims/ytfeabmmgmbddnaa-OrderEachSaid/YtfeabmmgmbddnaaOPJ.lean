/-
  Package order: each of its laws for every argument; no conditions. The last text states which.
-/
import Derived.Test.YtfeabmmgmbddnaaOPI
import Derived.Test.YtfeabmmgmbddnaaGAmBk
open Go Go.Am Go.Proofs
namespace Go.Proofs.Ytfeabmmgmbddnaa
set_option maxRecDepth 100000
set_option linter.unusedVariables false
set_option linter.unusedSimpArgs false
def net1 : List E4 := []
def net2 : List E4 := [⟨0, 1, 0, 0⟩, ⟨1, 0, 1, 0⟩]
theorem chk1 : chkN ((1 : Nat) : Int) net1 = true := by decide
theorem chk2 : chkN ((2 : Nat) : Int) net2 = true := by decide
theorem ord1 : orderL 1 net1 = [0] := (order_eq chk1).trans (by kernel_rfl)
theorem lnk2 : linksL (adjM 2 net2) 2 = [true, true] := (links_eq chk2).trans (by kernel_rfl)
theorem rK8 : Try.f8.results = #[.tmp 0] := by kernel_rfl
theorem hS8_10_13 (B : Bd) : ∀ p ∈ ([(10, pick (Con Try.prog [] 10 Q10)), (13, pick (Con Try.prog [] 13 Q13))] : List (FuncId × (List Value → Mem → Option (Value × Mem)))), SpecOk Try.prog [] B p.1 p.2 := (fun p hp => by simp only [List.mem_cons, List.not_mem_nil, or_false] at hp; rcases hp with rfl | rfl <;> first | exact Con.ok _)
theorem w8_raw  (M : Mem) (b2 : Nat) (o3 : Nat) (c4 : Nat) (M8 : Mem) (b17 : Nat) (M18 : Mem) (b28 : Nat) (o29 : Nat) (c30 : Nat) (M34 : Mem) : oT Try.prog [] 60 Try.f8 q8 [] M [ttV 5 (sli b2 o3 1 c4) M8, ttV 13 (sli b17 0 2 3) M18, ttV 17 (sli b28 o29 2 c30) M34, ttL 33 (i64 0), ttL 55 (.bool true), ttL 65 (.bool true)] 0 = some (.ret, some (.bool true), M34, [qC 13 [(.agg ⟨[(i64 1), sln]⟩)] M (sli b2 o3 1 c4) M8, .eq (abuildSlice Try.prog 24 2 [(0, (.agg ⟨[(i64 0), (i64 1), (i64 0), (i64 0)]⟩)), (1, (.agg ⟨[(i64 1), (i64 0), (i64 1), (i64 0)]⟩))] M8) (1, .val (sli b17 0 2 3), M18), qC 10 [(.agg ⟨[(i64 2), (sli b17 0 2 3)]⟩)] M18 (sli b28 o29 2 c30) M34, qL 3 b2 (o3 + 0) M34 (i64 0), qL 4 b28 (o29 + 0) M34 (.bool true), qL 4 b28 (o29 + 1) M34 (.bool true)]) := by kernel_rfl
theorem w8  {M : Mem} (hM : MemOk M) : ∃ v_ M', Ev Try.prog [] 8 [] M v_ M' ∧ Ext M M' ∧ MemOk M' ∧ v_ = .bool true := by
  obtain ⟨w6, N7, M8, p9, l10, e11, E12, hM13, F14⟩ := call_fc (x := (1, net1)) hM con13 (⟨⟨_, rfl, _, rfl, GRowsAt.nil none⟩, chk1⟩)
  have nx15 := E12.next
  have G5 : pInts (orderL 1 net1) w6 (hidx [(0, M.next)] M8) := hx_of F14
  rw [ord1] at G5
  obtain ⟨a1, c4, ew6⟩ := GRowsAt.form G5
  subst ew6
  obtain ⟨b2, o3, ea1, _⟩ := form_pos G5 (by decide)
  subst ea1
  have X16 := (Ext.refl M).trans E12
  obtain ⟨b17, M18, eb19, em20, g21, E22, hM23⟩ := new_t hM13 ⟨[(i64 0), (i64 1), (i64 0), (i64 0), (i64 1), (i64 0), (i64 1), (i64 0)], 37, 4, 0, true⟩
  have nb17 : M.next ≤ b17 := by rw [← eb19]; exact X16.next
  have F24 := hx_new (R := pInts) G5 eb19 E22
  have nx25 := E22.next
  have X26 := X16.trans E22
  have ltb17M34 := Mem.lt_of_get g21
  obtain ⟨w32, N33, M34, p35, l36, e37, E38, hM39, F40⟩ := call_fc (x := (2, net2)) hM23 con10 (⟨⟨_, rfl, _, rfl, GRowsAt.of_blk' g21 rfl rfl (fun r hr => by simp [net2] at hr; rcases hr with rfl | rfl <;> rfl) (by decide)⟩, chk2⟩)
  have nx41 := E38.next
  have F42 := hx_ext (R := pInts) F24 E38
  have G31 : pBools (linksL (adjM 2 net2) 2) w32 (hidx [(0, M18.next)] M34) := hx_of F40
  rw [lnk2] at G31
  obtain ⟨a27, c30, ew32⟩ := GRowsAt.form G31
  subst ew32
  obtain ⟨b28, o29, ea27, _⟩ := form_pos G31 (by decide)
  subst ea27
  have X44 := X26.trans E38
  have hraw := w8_raw  M  b2 o3 c4 M8 b17 M18 b28 o29 c30 M34
  exact ⟨(.bool true), M34, Ev.told_tmp noNumP mixedP Try.func8 q8_ok (by kernel_rfl) rK8 (fun B => specsB_ok (k := []) (hS8_10_13 B) (fun p hp => by cases hp)) (fun _ _ => rfl) hraw (hk (q_call rfl p9 l10 e11) (hk (q_eq (by rw [← eb19, ← em20]; kernel_rfl) Nat.one_ne_zero) (hk (q_call rfl p35 l36 e37) (hk (q_ld (by have := ld_one (P := Try.prog) (ty := 3) (i := 0) (hx_out (R := pInts) F42) rfl rfl dC3; simpa using this)) (hk (q_ld (by have := ld_one (P := Try.prog) (ty := 4) (i := 0) (hx_out (R := pBools) G31) rfl rfl dC4; simpa using this)) (hk (q_ld (by have := ld_one (P := Try.prog) (ty := 4) (i := 1) (hx_out (R := pBools) G31) rfl rfl dC4; simpa using this)) hn)))))), X44, hM39, rfl⟩
abbrev Q8 := FC as0 (plain pB) (fun _ => true)
theorem con8 {x : Unit} {lv : List Value} {M : Mem} (hM : MemOk M) (h : as0 x lv M) : ∃ v M', Con Try.prog [] 8 Q8 lv M v M' := by
  refine FC.con h ?_
  obtain rfl := h
  obtain ⟨v, M', h1, h2, _, h3⟩ := w8 hM
  exact ⟨v, M', h1, h2, h3⟩
end Go.Proofs.Ytfeabmmgmbddnaa
