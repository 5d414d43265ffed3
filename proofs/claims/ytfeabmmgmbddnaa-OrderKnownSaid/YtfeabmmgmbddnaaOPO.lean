/-
  Package order: each of its laws for every argument; no conditions. The last text states which.
-/
import Derived.Test.YtfeabmmgmbddnaaOQ5
import Derived.Test.YtfeabmmgmbddnaaOPJ
open Go Go.Am Go.Proofs
namespace Go.Proofs.Ytfeabmmgmbddnaa
set_option maxRecDepth 100000
set_option linter.unusedVariables false
set_option linter.unusedSimpArgs false
def kn0 : List E4 := []
theorem kc0 : chkN ((3 : Nat) : Int) kn0 = true := by decide
theorem ko0 : orderL 3 kn0 = [0, 1, 2] := (order_eq kc0).trans (by kernel_rfl)
theorem kl0 : linksL (adjM 3 kn0) 3 = [false, false, false] := (links_eq kc0).trans (by kernel_rfl)
def kn1 : List E4 := [⟨0, 1, 0, 0⟩, ⟨1, 2, 0, 0⟩]
theorem kc1 : chkN ((3 : Nat) : Int) kn1 = true := by decide
theorem ko1 : orderL 3 kn1 = [0, 2, 1] := (order_eq kc1).trans (by kernel_rfl)
theorem kl1 : linksL (adjM 3 kn1) 3 = [false, false, false] := (links_eq kc1).trans (by kernel_rfl)
def kn2 : List E4 := [⟨0, 1, 0, 0⟩, ⟨1, 2, 1, 0⟩]
theorem kc2 : chkN ((3 : Nat) : Int) kn2 = true := by decide
theorem ko2 : orderL 3 kn2 = [0, 2] := (order_eq kc2).trans (by kernel_rfl)
theorem kl2 : linksL (adjM 3 kn2) 3 = [false, true, false] := (links_eq kc2).trans (by kernel_rfl)
def kn3 : List E4 := [⟨0, 0, 3, 0⟩]
theorem kc3 : chkN ((2 : Nat) : Int) kn3 = true := by decide
theorem ko3 : orderL 2 kn3 = [1, 0] := (order_eq kc3).trans (by kernel_rfl)
theorem kl3 : linksL (adjM 2 kn3) 2 = [false, false] := (links_eq kc3).trans (by kernel_rfl)
def kn4 : List E4 := [⟨3, 2, 0, 0⟩, ⟨3, 1, 0, 0⟩, ⟨3, 0, 0, 0⟩, ⟨0, 0, 0, 0⟩]
theorem kc4 : chkN ((4 : Nat) : Int) kn4 = true := by decide
theorem ko4 : orderL 4 kn4 = [1, 2, 0, 3] := (order_eq kc4).trans (by kernel_rfl)
theorem kl4 : linksL (adjM 4 kn4) 4 = [false, false, false, false] := (links_eq kc4).trans (by kernel_rfl)
def kn5 : List E4 := [⟨0, 0, 0, 0⟩, ⟨0, 0, 4, 0⟩]
theorem kc5 : chkN ((2 : Nat) : Int) kn5 = true := by decide
theorem ko5 : orderL 2 kn5 = [1] := (order_eq kc5).trans (by kernel_rfl)
theorem kl5 : linksL (adjM 2 kn5) 2 = [true, false] := (links_eq kc5).trans (by kernel_rfl)
theorem rK6 : Try.f6.results = #[.tmp 2] := by kernel_rfl
theorem hS6_8_10_12_13_18 (B : Bd) : ∀ p ∈ ([(8, pick (Con Try.prog [] 8 Q8)), (10, pick (Con Try.prog [] 10 Q10)), (12, pick (Con Try.prog [] 12 Q12)), (13, pick (Con Try.prog [] 13 Q13)), (18, pick (Con Try.prog [] 18 Q18))] : List (FuncId × (List Value → Mem → Option (Value × Mem)))), SpecOk Try.prog [] B p.1 p.2 := (fun p hp => by simp only [List.mem_cons, List.not_mem_nil, or_false] at hp; rcases hp with rfl | rfl | rfl | rfl | rfl <;> first | exact Con.ok _)
theorem w6_0_raw (x : Int) (M : Mem) (M3 : Mem) (b12 : Nat) (M13 : Mem) (b21 : Nat) (M22 : Mem) (b31 : Nat) (M32 : Mem) (b42 : Nat) (M43 : Mem) (b54 : Nat) (M55 : Mem) (b67 : Nat) (M68 : Mem) (b81 : Nat) (M82 : Mem) (b96 : Nat) (M97 : Mem) (b112 : Nat) (M113 : Mem) (b129 : Nat) (M130 : Mem) (b147 : Nat) (M148 : Mem) (b166 : Nat) (M167 : Mem) (b186 : Nat) (M187 : Mem) (M209 : Mem) (b251 : Nat) (o252 : Nat) (c250 : Nat) (M256 : Mem) (b281 : Nat) (o282 : Nat) (c280 : Nat) (M286 : Mem) (M331 : Mem) : oT Try.prog [] 100 Try.f6 q6 [(i64 x)] M [ttV 3 (.bool true) M3, ttV 14 (sli b12 0 2 3) M13, ttV 22 (sli b21 0 2 3) M22, ttV 28 (sli b31 0 1 2) M32, ttV 40 (sli b42 0 4 5) M43, ttV 48 (sli b54 0 2 3) M55, ttV 52 (sli b67 0 6 7) M68, ttV 56 (sli b81 0 3 4) M82, ttV 58 (sli b96 0 3 4) M97, ttV 60 (sli b112 0 2 3) M113, ttV 62 (sli b129 0 2 3) M130, ttV 64 (sli b147 0 4 5) M148, ttV 66 (sli b166 0 1 2) M167, ttV 68 (sli b186 0 6 7) M187, ttV 78 (i64 0) M209, ttL 88 (.agg ⟨[(i64 3), sln]⟩), ttV 90 (sli b251 o252 3 c250) M256, ttL 98 (.agg ⟨[(i64 3), sln]⟩), ttV 100 (sli b281 o282 3 c280) M286, ttL 125 (.bool false), ttL 149 (.bool false), ttL 173 (.bool false), ttL 199 (sli b81 0 3 4), ttV 201 (.bool true) M331, ttL 215 (i64 3), ttL 223 (sli b81 0 3 4), ttL 247 (i64 3)] 2 = some (.ret, some (.bool true), M331, [qC 8 [] M (.bool true) M3, .eq (abuildSlice Try.prog 24 2 [(0, (.agg ⟨[(i64 0), (i64 1), (i64 0), (i64 0)]⟩)), (1, (.agg ⟨[(i64 1), (i64 2), (i64 0), (i64 0)]⟩))] M3) (1, .val (sli b12 0 2 3), M13), .eq (abuildSlice Try.prog 24 2 [(0, (.agg ⟨[(i64 0), (i64 1), (i64 0), (i64 0)]⟩)), (1, (.agg ⟨[(i64 1), (i64 2), (i64 1), (i64 0)]⟩))] M13) (1, .val (sli b21 0 2 3), M22), .eq (abuildSlice Try.prog 24 1 [(0, (.agg ⟨[(i64 0), (i64 0), (i64 3), (i64 0)]⟩))] M22) (1, .val (sli b31 0 1 2), M32), .eq (abuildSlice Try.prog 24 4 [(0, (.agg ⟨[(i64 3), (i64 2), (i64 0), (i64 0)]⟩)), (1, (.agg ⟨[(i64 3), (i64 1), (i64 0), (i64 0)]⟩)), (2, (.agg ⟨[(i64 3), (i64 0), (i64 0), (i64 0)]⟩)), (3, (.agg ⟨[(i64 0), (i64 0), (i64 0), (i64 0)]⟩))] M32) (1, .val (sli b42 0 4 5), M43), .eq (abuildSlice Try.prog 24 2 [(0, (.agg ⟨[(i64 0), (i64 0), (i64 0), (i64 0)]⟩)), (1, (.agg ⟨[(i64 0), (i64 0), (i64 4), (i64 0)]⟩))] M43) (1, .val (sli b54 0 2 3), M55), .eq (abuildSlice Try.prog 40 6 [(0, (.agg ⟨[(i64 3), sln]⟩)), (1, (.agg ⟨[(i64 3), (sli b12 0 2 3)]⟩)), (2, (.agg ⟨[(i64 3), (sli b21 0 2 3)]⟩)), (3, (.agg ⟨[(i64 2), (sli b31 0 1 2)]⟩)), (4, (.agg ⟨[(i64 4), (sli b42 0 4 5)]⟩)), (5, (.agg ⟨[(i64 2), (sli b54 0 2 3)]⟩))] M55) (1, .val (sli b67 0 6 7), M68), .eq (abuildSlice Try.prog 22 3 [(0, (i64 0)), (1, (i64 1)), (2, (i64 2))] M68) (1, .val (sli b81 0 3 4), M82), .eq (abuildSlice Try.prog 22 3 [(0, (i64 0)), (1, (i64 2)), (2, (i64 1))] M82) (1, .val (sli b96 0 3 4), M97), .eq (abuildSlice Try.prog 22 2 [(0, (i64 0)), (1, (i64 2))] M97) (1, .val (sli b112 0 2 3), M113), .eq (abuildSlice Try.prog 22 2 [(0, (i64 1)), (1, (i64 0))] M113) (1, .val (sli b129 0 2 3), M130), .eq (abuildSlice Try.prog 22 4 [(0, (i64 1)), (1, (i64 2)), (2, (i64 0)), (3, (i64 3))] M130) (1, .val (sli b147 0 4 5), M148), .eq (abuildSlice Try.prog 22 1 [(0, (i64 1))] M148) (1, .val (sli b166 0 1 2), M167), .eq (abuildSlice Try.prog 41 6 [(0, (sli b81 0 3 4)), (1, (sli b96 0 3 4)), (2, (sli b112 0 2 3)), (3, (sli b129 0 2 3)), (4, (sli b147 0 4 5)), (5, (sli b166 0 1 2))] M167) (1, .val (sli b186 0 6 7), M187), qC 18 [(i64 x), (i64 6)] M187 (i64 0) M209, qL 26 b67 0 (Mem.mk M209.blks M209.next M209.hide []) (.agg ⟨[(i64 3), sln]⟩), qC 13 [(.agg ⟨[(i64 3), sln]⟩)] (Mem.mk M209.blks M209.next M209.hide []) (sli b251 o252 3 c250) M256, qL 26 b67 0 (Mem.mk M256.blks M256.next (hides 224 [⟨4, 1, M209.next, M256.next⟩, ⟨3, 1, M209.next, M209.next⟩] ++ M209.hide) M256.log) (.agg ⟨[(i64 3), sln]⟩), qT (Nat.blt b67 M209.next), qC 10 [(.agg ⟨[(i64 3), sln]⟩)] (Mem.mk M256.blks M256.next M209.hide M256.log) (sli b281 o282 3 c280) M286, qT (apartN [b67] M286.log), qL 4 b281 (o282 + 0) (Mem.mk M286.blks M286.next M209.hide (M286.log ++ M209.log)) (.bool false), qL 4 b281 (o282 + 1) (Mem.mk M286.blks M286.next M209.hide (M286.log ++ M209.log)) (.bool false), qL 4 b281 (o282 + 2) (Mem.mk M286.blks M286.next M209.hide (M286.log ++ M209.log)) (.bool false), qL 22 b186 0 (Mem.mk M286.blks M286.next M209.hide (M286.log ++ M209.log)) (sli b81 0 3 4), qC 12 [(sli b251 o252 3 c250), (sli b81 0 3 4)] (Mem.mk M286.blks M286.next M209.hide (M286.log ++ M209.log)) (.bool true) M331, qL 3 b67 0 M331 (i64 3), qL 22 b186 0 M331 (sli b81 0 3 4), qL 3 b67 0 M331 (i64 3)]) := by kernel_rfl
theorem w6_0 (x : Int) {M : Mem} (hM : MemOk M) (hkk : modI x 6 = 0) : ∃ v_ M', Ev Try.prog [] 6 [(i64 x)] M v_ M' ∧ Ext M M' ∧ MemOk M' ∧ v_ = .bool true := by
  obtain ⟨w1, N2, M3, p4, l5, e6, E7, hM8, F9⟩ := call_fc (x := ()) hM con8 (rfl)
  have nx10 := E7.next
  have ew1 : w1 = (.bool true) := F9
  subst ew1
  have X11 := (Ext.refl M).trans E7
  obtain ⟨b12, M13, eb14, em15, g16, E17, hM18⟩ := new_t hM8 ⟨[(i64 0), (i64 1), (i64 0), (i64 0), (i64 1), (i64 2), (i64 0), (i64 0)], 37, 4, 0, true⟩
  have nb12 : M.next ≤ b12 := by rw [← eb14]; exact X11.next
  have nx19 := E17.next
  have X20 := X11.trans E17
  obtain ⟨b21, M22, eb23, em24, g25, E26, hM27⟩ := new_t hM18 ⟨[(i64 0), (i64 1), (i64 0), (i64 0), (i64 1), (i64 2), (i64 1), (i64 0)], 37, 4, 0, true⟩
  have nb21 : M.next ≤ b21 := by rw [← eb23]; exact X20.next
  have db12b21 : b12 ≠ b21 := by have := Mem.lt_of_get g16; omega
  have g28 := E26.old g16
  have nx29 := E26.next
  have X30 := X20.trans E26
  obtain ⟨b31, M32, eb33, em34, g35, E36, hM37⟩ := new_t hM27 ⟨[(i64 0), (i64 0), (i64 3), (i64 0)], 37, 4, 0, true⟩
  have nb31 : M.next ≤ b31 := by rw [← eb33]; exact X30.next
  have db12b31 : b12 ≠ b31 := by have := Mem.lt_of_get g28; omega
  have db21b31 : b21 ≠ b31 := by have := Mem.lt_of_get g25; omega
  have g38 := E36.old g28
  have g39 := E36.old g25
  have nx40 := E36.next
  have X41 := X30.trans E36
  obtain ⟨b42, M43, eb44, em45, g46, E47, hM48⟩ := new_t hM37 ⟨[(i64 3), (i64 2), (i64 0), (i64 0), (i64 3), (i64 1), (i64 0), (i64 0), (i64 3), (i64 0), (i64 0), (i64 0), (i64 0), (i64 0), (i64 0), (i64 0)], 37, 4, 0, true⟩
  have nb42 : M.next ≤ b42 := by rw [← eb44]; exact X41.next
  have db12b42 : b12 ≠ b42 := by have := Mem.lt_of_get g38; omega
  have db21b42 : b21 ≠ b42 := by have := Mem.lt_of_get g39; omega
  have db31b42 : b31 ≠ b42 := by have := Mem.lt_of_get g35; omega
  have g49 := E47.old g38
  have g50 := E47.old g39
  have g51 := E47.old g35
  have nx52 := E47.next
  have X53 := X41.trans E47
  obtain ⟨b54, M55, eb56, em57, g58, E59, hM60⟩ := new_t hM48 ⟨[(i64 0), (i64 0), (i64 0), (i64 0), (i64 0), (i64 0), (i64 4), (i64 0)], 37, 4, 0, true⟩
  have nb54 : M.next ≤ b54 := by rw [← eb56]; exact X53.next
  have db12b54 : b12 ≠ b54 := by have := Mem.lt_of_get g49; omega
  have db21b54 : b21 ≠ b54 := by have := Mem.lt_of_get g50; omega
  have db31b54 : b31 ≠ b54 := by have := Mem.lt_of_get g51; omega
  have db42b54 : b42 ≠ b54 := by have := Mem.lt_of_get g46; omega
  have g61 := E59.old g49
  have g62 := E59.old g50
  have g63 := E59.old g51
  have g64 := E59.old g46
  have nx65 := E59.next
  have X66 := X53.trans E59
  obtain ⟨b67, M68, eb69, em70, g71, E72, hM73⟩ := new_t hM60 ⟨[(i64 3), sln, (i64 3), (sli b12 0 2 3), (i64 3), (sli b21 0 2 3), (i64 2), (sli b31 0 1 2), (i64 4), (sli b42 0 4 5), (i64 2), (sli b54 0 2 3)], 26, 2, 0, true⟩
  have nb67 : M.next ≤ b67 := by rw [← eb69]; exact X66.next
  have db12b67 : b12 ≠ b67 := by have := Mem.lt_of_get g61; omega
  have db21b67 : b21 ≠ b67 := by have := Mem.lt_of_get g62; omega
  have db31b67 : b31 ≠ b67 := by have := Mem.lt_of_get g63; omega
  have db42b67 : b42 ≠ b67 := by have := Mem.lt_of_get g64; omega
  have db54b67 : b54 ≠ b67 := by have := Mem.lt_of_get g58; omega
  have g74 := E72.old g61
  have g75 := E72.old g62
  have g76 := E72.old g63
  have g77 := E72.old g64
  have g78 := E72.old g58
  have nx79 := E72.next
  have X80 := X66.trans E72
  obtain ⟨b81, M82, eb83, em84, g85, E86, hM87⟩ := new_t hM73 ⟨[(i64 0), (i64 1), (i64 2)], 3, 1, 0, true⟩
  have nb81 : M.next ≤ b81 := by rw [← eb83]; exact X80.next
  have db12b81 : b12 ≠ b81 := by have := Mem.lt_of_get g74; omega
  have db21b81 : b21 ≠ b81 := by have := Mem.lt_of_get g75; omega
  have db31b81 : b31 ≠ b81 := by have := Mem.lt_of_get g76; omega
  have db42b81 : b42 ≠ b81 := by have := Mem.lt_of_get g77; omega
  have db54b81 : b54 ≠ b81 := by have := Mem.lt_of_get g78; omega
  have db67b81 : b67 ≠ b81 := by have := Mem.lt_of_get g71; omega
  have g88 := E86.old g74
  have g89 := E86.old g75
  have g90 := E86.old g76
  have g91 := E86.old g77
  have g92 := E86.old g78
  have g93 := E86.old g71
  have nx94 := E86.next
  have X95 := X80.trans E86
  obtain ⟨b96, M97, eb98, em99, g100, E101, hM102⟩ := new_t hM87 ⟨[(i64 0), (i64 2), (i64 1)], 3, 1, 0, true⟩
  have nb96 : M.next ≤ b96 := by rw [← eb98]; exact X95.next
  have db12b96 : b12 ≠ b96 := by have := Mem.lt_of_get g88; omega
  have db21b96 : b21 ≠ b96 := by have := Mem.lt_of_get g89; omega
  have db31b96 : b31 ≠ b96 := by have := Mem.lt_of_get g90; omega
  have db42b96 : b42 ≠ b96 := by have := Mem.lt_of_get g91; omega
  have db54b96 : b54 ≠ b96 := by have := Mem.lt_of_get g92; omega
  have db67b96 : b67 ≠ b96 := by have := Mem.lt_of_get g93; omega
  have db81b96 : b81 ≠ b96 := by have := Mem.lt_of_get g85; omega
  have g103 := E101.old g88
  have g104 := E101.old g89
  have g105 := E101.old g90
  have g106 := E101.old g91
  have g107 := E101.old g92
  have g108 := E101.old g93
  have g109 := E101.old g85
  have nx110 := E101.next
  have X111 := X95.trans E101
  obtain ⟨b112, M113, eb114, em115, g116, E117, hM118⟩ := new_t hM102 ⟨[(i64 0), (i64 2)], 3, 1, 0, true⟩
  have nb112 : M.next ≤ b112 := by rw [← eb114]; exact X111.next
  have db12b112 : b12 ≠ b112 := by have := Mem.lt_of_get g103; omega
  have db21b112 : b21 ≠ b112 := by have := Mem.lt_of_get g104; omega
  have db31b112 : b31 ≠ b112 := by have := Mem.lt_of_get g105; omega
  have db42b112 : b42 ≠ b112 := by have := Mem.lt_of_get g106; omega
  have db54b112 : b54 ≠ b112 := by have := Mem.lt_of_get g107; omega
  have db67b112 : b67 ≠ b112 := by have := Mem.lt_of_get g108; omega
  have db81b112 : b81 ≠ b112 := by have := Mem.lt_of_get g109; omega
  have db96b112 : b96 ≠ b112 := by have := Mem.lt_of_get g100; omega
  have g119 := E117.old g103
  have g120 := E117.old g104
  have g121 := E117.old g105
  have g122 := E117.old g106
  have g123 := E117.old g107
  have g124 := E117.old g108
  have g125 := E117.old g109
  have g126 := E117.old g100
  have nx127 := E117.next
  have X128 := X111.trans E117
  obtain ⟨b129, M130, eb131, em132, g133, E134, hM135⟩ := new_t hM118 ⟨[(i64 1), (i64 0)], 3, 1, 0, true⟩
  have nb129 : M.next ≤ b129 := by rw [← eb131]; exact X128.next
  have db12b129 : b12 ≠ b129 := by have := Mem.lt_of_get g119; omega
  have db21b129 : b21 ≠ b129 := by have := Mem.lt_of_get g120; omega
  have db31b129 : b31 ≠ b129 := by have := Mem.lt_of_get g121; omega
  have db42b129 : b42 ≠ b129 := by have := Mem.lt_of_get g122; omega
  have db54b129 : b54 ≠ b129 := by have := Mem.lt_of_get g123; omega
  have db67b129 : b67 ≠ b129 := by have := Mem.lt_of_get g124; omega
  have db81b129 : b81 ≠ b129 := by have := Mem.lt_of_get g125; omega
  have db96b129 : b96 ≠ b129 := by have := Mem.lt_of_get g126; omega
  have db112b129 : b112 ≠ b129 := by have := Mem.lt_of_get g116; omega
  have g136 := E134.old g119
  have g137 := E134.old g120
  have g138 := E134.old g121
  have g139 := E134.old g122
  have g140 := E134.old g123
  have g141 := E134.old g124
  have g142 := E134.old g125
  have g143 := E134.old g126
  have g144 := E134.old g116
  have nx145 := E134.next
  have X146 := X128.trans E134
  obtain ⟨b147, M148, eb149, em150, g151, E152, hM153⟩ := new_t hM135 ⟨[(i64 1), (i64 2), (i64 0), (i64 3)], 3, 1, 0, true⟩
  have nb147 : M.next ≤ b147 := by rw [← eb149]; exact X146.next
  have db12b147 : b12 ≠ b147 := by have := Mem.lt_of_get g136; omega
  have db21b147 : b21 ≠ b147 := by have := Mem.lt_of_get g137; omega
  have db31b147 : b31 ≠ b147 := by have := Mem.lt_of_get g138; omega
  have db42b147 : b42 ≠ b147 := by have := Mem.lt_of_get g139; omega
  have db54b147 : b54 ≠ b147 := by have := Mem.lt_of_get g140; omega
  have db67b147 : b67 ≠ b147 := by have := Mem.lt_of_get g141; omega
  have db81b147 : b81 ≠ b147 := by have := Mem.lt_of_get g142; omega
  have db96b147 : b96 ≠ b147 := by have := Mem.lt_of_get g143; omega
  have db112b147 : b112 ≠ b147 := by have := Mem.lt_of_get g144; omega
  have db129b147 : b129 ≠ b147 := by have := Mem.lt_of_get g133; omega
  have g154 := E152.old g136
  have g155 := E152.old g137
  have g156 := E152.old g138
  have g157 := E152.old g139
  have g158 := E152.old g140
  have g159 := E152.old g141
  have g160 := E152.old g142
  have g161 := E152.old g143
  have g162 := E152.old g144
  have g163 := E152.old g133
  have nx164 := E152.next
  have X165 := X146.trans E152
  obtain ⟨b166, M167, eb168, em169, g170, E171, hM172⟩ := new_t hM153 ⟨[(i64 1)], 3, 1, 0, true⟩
  have nb166 : M.next ≤ b166 := by rw [← eb168]; exact X165.next
  have db12b166 : b12 ≠ b166 := by have := Mem.lt_of_get g154; omega
  have db21b166 : b21 ≠ b166 := by have := Mem.lt_of_get g155; omega
  have db31b166 : b31 ≠ b166 := by have := Mem.lt_of_get g156; omega
  have db42b166 : b42 ≠ b166 := by have := Mem.lt_of_get g157; omega
  have db54b166 : b54 ≠ b166 := by have := Mem.lt_of_get g158; omega
  have db67b166 : b67 ≠ b166 := by have := Mem.lt_of_get g159; omega
  have db81b166 : b81 ≠ b166 := by have := Mem.lt_of_get g160; omega
  have db96b166 : b96 ≠ b166 := by have := Mem.lt_of_get g161; omega
  have db112b166 : b112 ≠ b166 := by have := Mem.lt_of_get g162; omega
  have db129b166 : b129 ≠ b166 := by have := Mem.lt_of_get g163; omega
  have db147b166 : b147 ≠ b166 := by have := Mem.lt_of_get g151; omega
  have g173 := E171.old g154
  have g174 := E171.old g155
  have g175 := E171.old g156
  have g176 := E171.old g157
  have g177 := E171.old g158
  have g178 := E171.old g159
  have g179 := E171.old g160
  have g180 := E171.old g161
  have g181 := E171.old g162
  have g182 := E171.old g163
  have g183 := E171.old g151
  have nx184 := E171.next
  have X185 := X165.trans E171
  obtain ⟨b186, M187, eb188, em189, g190, E191, hM192⟩ := new_t hM172 ⟨[(sli b81 0 3 4), (sli b96 0 3 4), (sli b112 0 2 3), (sli b129 0 2 3), (sli b147 0 4 5), (sli b166 0 1 2)], 22, 1, 0, true⟩
  have nb186 : M.next ≤ b186 := by rw [← eb188]; exact X185.next
  have db12b186 : b12 ≠ b186 := by have := Mem.lt_of_get g173; omega
  have db21b186 : b21 ≠ b186 := by have := Mem.lt_of_get g174; omega
  have db31b186 : b31 ≠ b186 := by have := Mem.lt_of_get g175; omega
  have db42b186 : b42 ≠ b186 := by have := Mem.lt_of_get g176; omega
  have db54b186 : b54 ≠ b186 := by have := Mem.lt_of_get g177; omega
  have db67b186 : b67 ≠ b186 := by have := Mem.lt_of_get g178; omega
  have db81b186 : b81 ≠ b186 := by have := Mem.lt_of_get g179; omega
  have db96b186 : b96 ≠ b186 := by have := Mem.lt_of_get g180; omega
  have db112b186 : b112 ≠ b186 := by have := Mem.lt_of_get g181; omega
  have db129b186 : b129 ≠ b186 := by have := Mem.lt_of_get g182; omega
  have db147b186 : b147 ≠ b186 := by have := Mem.lt_of_get g183; omega
  have db166b186 : b166 ≠ b186 := by have := Mem.lt_of_get g170; omega
  have g193 := E191.old g173
  have g194 := E191.old g174
  have g195 := E191.old g175
  have g196 := E191.old g176
  have g197 := E191.old g177
  have g198 := E191.old g178
  have g199 := E191.old g179
  have g200 := E191.old g180
  have g201 := E191.old g181
  have g202 := E191.old g182
  have g203 := E191.old g183
  have g204 := E191.old g170
  have nx205 := E191.next
  have X206 := X185.trans E191
  have ltb12M209 := Mem.lt_of_get g193
  have ltb21M209 := Mem.lt_of_get g194
  have ltb31M209 := Mem.lt_of_get g195
  have ltb42M209 := Mem.lt_of_get g196
  have ltb54M209 := Mem.lt_of_get g197
  have ltb67M209 := Mem.lt_of_get g198
  have ltb81M209 := Mem.lt_of_get g199
  have ltb96M209 := Mem.lt_of_get g200
  have ltb112M209 := Mem.lt_of_get g201
  have ltb129M209 := Mem.lt_of_get g202
  have ltb147M209 := Mem.lt_of_get g203
  have ltb166M209 := Mem.lt_of_get g204
  have ltb186M209 := Mem.lt_of_get g190
  obtain ⟨w207, N208, M209, p210, l211, e212, E213, hM214, F215⟩ := call_fc (x := (x, 6)) hM192 con18 (⟨⟨_, _, rfl, rfl, rfl⟩, rfl⟩)
  have nx216 := E213.next
  have g217 := E213.old g193
  have g218 := E213.old g194
  have g219 := E213.old g195
  have g220 := E213.old g196
  have g221 := E213.old g197
  have g222 := E213.old g198
  have g223 := E213.old g199
  have g224 := E213.old g200
  have g225 := E213.old g201
  have g226 := E213.old g202
  have g227 := E213.old g203
  have g228 := E213.old g204
  have g229 := E213.old g190
  have ew207 : w207 = i64 0 := (show w207 = i64 (modI x 6) from F215).trans (by rw [hkk])
  subst ew207
  have X230 := X206.trans E213
  obtain ⟨R231, eR232⟩ : ∃ m : Mem, m = Mem.mk M209.blks M209.next M209.hide [] := ⟨_, rfl⟩
  have X233 : Ext (Mem.mk M.blks M.next M.hide []) R231 := by rw [eR232]; exact Ext.aside (X230)
  have lg234 : R231.log = [] := by rw [eR232]
  have nxR231 : R231.next = M209.next := by rw [eR232]
  have hM235 : MemOk R231 := by rw [eR232]; exact MemOk.log hM214
  have ltb12M209 : b12 < M209.next := by have h := Mem.lt_of_get g217; exact h
  have g236 : R231.get b12 = some ⟨[(i64 0), (i64 1), (i64 0), (i64 0), (i64 1), (i64 2), (i64 0), (i64 0)], 37, 4, 0, true⟩ := by rw [eR232]; exact g217
  have ltb21M209 : b21 < M209.next := by have h := Mem.lt_of_get g218; exact h
  have g237 : R231.get b21 = some ⟨[(i64 0), (i64 1), (i64 0), (i64 0), (i64 1), (i64 2), (i64 1), (i64 0)], 37, 4, 0, true⟩ := by rw [eR232]; exact g218
  have ltb31M209 : b31 < M209.next := by have h := Mem.lt_of_get g219; exact h
  have g238 : R231.get b31 = some ⟨[(i64 0), (i64 0), (i64 3), (i64 0)], 37, 4, 0, true⟩ := by rw [eR232]; exact g219
  have ltb42M209 : b42 < M209.next := by have h := Mem.lt_of_get g220; exact h
  have g239 : R231.get b42 = some ⟨[(i64 3), (i64 2), (i64 0), (i64 0), (i64 3), (i64 1), (i64 0), (i64 0), (i64 3), (i64 0), (i64 0), (i64 0), (i64 0), (i64 0), (i64 0), (i64 0)], 37, 4, 0, true⟩ := by rw [eR232]; exact g220
  have ltb54M209 : b54 < M209.next := by have h := Mem.lt_of_get g221; exact h
  have g240 : R231.get b54 = some ⟨[(i64 0), (i64 0), (i64 0), (i64 0), (i64 0), (i64 0), (i64 4), (i64 0)], 37, 4, 0, true⟩ := by rw [eR232]; exact g221
  have ltb67M209 : b67 < M209.next := by have h := Mem.lt_of_get g222; exact h
  have g241 : R231.get b67 = some ⟨[(i64 3), sln, (i64 3), (sli b12 0 2 3), (i64 3), (sli b21 0 2 3), (i64 2), (sli b31 0 1 2), (i64 4), (sli b42 0 4 5), (i64 2), (sli b54 0 2 3)], 26, 2, 0, true⟩ := by rw [eR232]; exact g222
  have ltb81M209 : b81 < M209.next := by have h := Mem.lt_of_get g223; exact h
  have g242 : R231.get b81 = some ⟨[(i64 0), (i64 1), (i64 2)], 3, 1, 0, true⟩ := by rw [eR232]; exact g223
  have ltb96M209 : b96 < M209.next := by have h := Mem.lt_of_get g224; exact h
  have g243 : R231.get b96 = some ⟨[(i64 0), (i64 2), (i64 1)], 3, 1, 0, true⟩ := by rw [eR232]; exact g224
  have ltb112M209 : b112 < M209.next := by have h := Mem.lt_of_get g225; exact h
  have g244 : R231.get b112 = some ⟨[(i64 0), (i64 2)], 3, 1, 0, true⟩ := by rw [eR232]; exact g225
  have ltb129M209 : b129 < M209.next := by have h := Mem.lt_of_get g226; exact h
  have g245 : R231.get b129 = some ⟨[(i64 1), (i64 0)], 3, 1, 0, true⟩ := by rw [eR232]; exact g226
  have ltb147M209 : b147 < M209.next := by have h := Mem.lt_of_get g227; exact h
  have g246 : R231.get b147 = some ⟨[(i64 1), (i64 2), (i64 0), (i64 3)], 3, 1, 0, true⟩ := by rw [eR232]; exact g227
  have ltb166M209 : b166 < M209.next := by have h := Mem.lt_of_get g228; exact h
  have g247 : R231.get b166 = some ⟨[(i64 1)], 3, 1, 0, true⟩ := by rw [eR232]; exact g228
  have ltb186M209 : b186 < M209.next := by have h := Mem.lt_of_get g229; exact h
  have g248 : R231.get b186 = some ⟨[(sli b81 0 3 4), (sli b96 0 3 4), (sli b112 0 2 3), (sli b129 0 2 3), (sli b147 0 4 5), (sli b166 0 1 2)], 22, 1, 0, true⟩ := by rw [eR232]; exact g229
  have ltb12M256 := Mem.lt_of_get g236
  have ltb21M256 := Mem.lt_of_get g237
  have ltb31M256 := Mem.lt_of_get g238
  have ltb42M256 := Mem.lt_of_get g239
  have ltb54M256 := Mem.lt_of_get g240
  have ltb67M256 := Mem.lt_of_get g241
  have ltb81M256 := Mem.lt_of_get g242
  have ltb96M256 := Mem.lt_of_get g243
  have ltb112M256 := Mem.lt_of_get g244
  have ltb129M256 := Mem.lt_of_get g245
  have ltb147M256 := Mem.lt_of_get g246
  have ltb166M256 := Mem.lt_of_get g247
  have ltb186M256 := Mem.lt_of_get g248
  obtain ⟨w254, N255, M256, p257, l258, e259, E260, hM261, F262⟩ := call_fc (x := (3, kn0)) hM235 con13 (⟨⟨_, rfl, _, rfl, GRowsAt.nil none⟩, kc0⟩)
  have nx263 := E260.next
  have g264 := E260.old g236
  have g265 := E260.old g237
  have g266 := E260.old g238
  have g267 := E260.old g239
  have g268 := E260.old g240
  have g269 := E260.old g241
  have g270 := E260.old g242
  have g271 := E260.old g243
  have g272 := E260.old g244
  have g273 := E260.old g245
  have g274 := E260.old g246
  have g275 := E260.old g247
  have g276 := E260.old g248
  have G253 : pInts (orderL 3 kn0) w254 (hidx [(0, R231.next)] M256) := hx_of F262
  rw [ko0] at G253
  obtain ⟨a249, c250, ew254⟩ := GRowsAt.form G253
  subst ew254
  obtain ⟨b251, o252, ea249, _⟩ := form_pos G253 (by decide)
  subst ea249
  have lg277 : M256.log = [] := by rw [← e259]; exact lg234
  have X278 := X233.trans E260
  have ltb12M286 := Mem.lt_of_get g264
  have ltb21M286 := Mem.lt_of_get g265
  have ltb31M286 := Mem.lt_of_get g266
  have ltb42M286 := Mem.lt_of_get g267
  have ltb54M286 := Mem.lt_of_get g268
  have ltb67M286 := Mem.lt_of_get g269
  have ltb81M286 := Mem.lt_of_get g270
  have ltb96M286 := Mem.lt_of_get g271
  have ltb112M286 := Mem.lt_of_get g272
  have ltb129M286 := Mem.lt_of_get g273
  have ltb147M286 := Mem.lt_of_get g274
  have ltb166M286 := Mem.lt_of_get g275
  have ltb186M286 := Mem.lt_of_get g276
  obtain ⟨w284, N285, M286, p287, l288, e289, E290, hM291, F292⟩ := call_fc (x := (3, kn0)) hM261 con10 (⟨⟨_, rfl, _, rfl, GRowsAt.nil none⟩, kc0⟩)
  have nx293 := E290.next
  have F294 := hx_ext (R := pInts) G253 E290
  have g295 := E290.old g264
  have g296 := E290.old g265
  have g297 := E290.old g266
  have g298 := E290.old g267
  have g299 := E290.old g268
  have g300 := E290.old g269
  have g301 := E290.old g270
  have g302 := E290.old g271
  have g303 := E290.old g272
  have g304 := E290.old g273
  have g305 := E290.old g274
  have g306 := E290.old g275
  have g307 := E290.old g276
  have G283 : pBools (linksL (adjM 3 kn0) 3) w284 (hidx [(0, M256.next)] M286) := hx_of F292
  rw [kl0] at G283
  obtain ⟨a279, c280, ew284⟩ := GRowsAt.form G283
  subst ew284
  obtain ⟨b281, o282, ea279, _⟩ := form_pos G283 (by decide)
  subst ea279
  have lg308 : M286.log = [] := by rw [← e289]; exact lg277
  have X309 := X278.trans E290
  obtain ⟨M310, ef311⟩ : ∃ m : Mem, m = (Mem.mk M286.blks M286.next M286.hide (M286.log ++ M209.log)) := ⟨_, rfl⟩
  have X312 : Ext M M310 := by rw [ef311]; exact Ext.join (X230) (X309)
  have hM313 : MemOk M310 := by rw [ef311]; exact hM291
  have g314 : M310.get b12 = some ⟨[(i64 0), (i64 1), (i64 0), (i64 0), (i64 1), (i64 2), (i64 0), (i64 0)], 37, 4, 0, true⟩ := by rw [ef311]; exact g295
  have g315 : M310.get b21 = some ⟨[(i64 0), (i64 1), (i64 0), (i64 0), (i64 1), (i64 2), (i64 1), (i64 0)], 37, 4, 0, true⟩ := by rw [ef311]; exact g296
  have g316 : M310.get b31 = some ⟨[(i64 0), (i64 0), (i64 3), (i64 0)], 37, 4, 0, true⟩ := by rw [ef311]; exact g297
  have g317 : M310.get b42 = some ⟨[(i64 3), (i64 2), (i64 0), (i64 0), (i64 3), (i64 1), (i64 0), (i64 0), (i64 3), (i64 0), (i64 0), (i64 0), (i64 0), (i64 0), (i64 0), (i64 0)], 37, 4, 0, true⟩ := by rw [ef311]; exact g298
  have g318 : M310.get b54 = some ⟨[(i64 0), (i64 0), (i64 0), (i64 0), (i64 0), (i64 0), (i64 4), (i64 0)], 37, 4, 0, true⟩ := by rw [ef311]; exact g299
  have g319 : M310.get b67 = some ⟨[(i64 3), sln, (i64 3), (sli b12 0 2 3), (i64 3), (sli b21 0 2 3), (i64 2), (sli b31 0 1 2), (i64 4), (sli b42 0 4 5), (i64 2), (sli b54 0 2 3)], 26, 2, 0, true⟩ := by rw [ef311]; exact g300
  have g320 : M310.get b81 = some ⟨[(i64 0), (i64 1), (i64 2)], 3, 1, 0, true⟩ := by rw [ef311]; exact g301
  have g321 : M310.get b96 = some ⟨[(i64 0), (i64 2), (i64 1)], 3, 1, 0, true⟩ := by rw [ef311]; exact g302
  have g322 : M310.get b112 = some ⟨[(i64 0), (i64 2)], 3, 1, 0, true⟩ := by rw [ef311]; exact g303
  have g323 : M310.get b129 = some ⟨[(i64 1), (i64 0)], 3, 1, 0, true⟩ := by rw [ef311]; exact g304
  have g324 : M310.get b147 = some ⟨[(i64 1), (i64 2), (i64 0), (i64 3)], 3, 1, 0, true⟩ := by rw [ef311]; exact g305
  have g325 : M310.get b166 = some ⟨[(i64 1)], 3, 1, 0, true⟩ := by rw [ef311]; exact g306
  have g326 : M310.get b186 = some ⟨[(sli b81 0 3 4), (sli b96 0 3 4), (sli b112 0 2 3), (sli b129 0 2 3), (sli b147 0 4 5), (sli b166 0 1 2)], 22, 1, 0, true⟩ := by rw [ef311]; exact g307
  have F327 := hx_still (R := pInts) (M' := M310) F294 (fun id b h => by rw [ef311]; exact h)
  have F328 := hx_still (R := pBools) (M' := M310) G283 (fun id b h => by rw [ef311]; exact h)
  have ltb12M331 := Mem.lt_of_get g314
  have ltb21M331 := Mem.lt_of_get g315
  have ltb31M331 := Mem.lt_of_get g316
  have ltb42M331 := Mem.lt_of_get g317
  have ltb54M331 := Mem.lt_of_get g318
  have ltb67M331 := Mem.lt_of_get g319
  have ltb81M331 := Mem.lt_of_get g320
  have ltb96M331 := Mem.lt_of_get g321
  have ltb112M331 := Mem.lt_of_get g322
  have ltb129M331 := Mem.lt_of_get g323
  have ltb147M331 := Mem.lt_of_get g324
  have ltb166M331 := Mem.lt_of_get g325
  have ltb186M331 := Mem.lt_of_get g326
  obtain ⟨w329, N330, M331, p332, l333, e334, E335, hM336, F337⟩ := call_fc (x := (([0, 1, 2] : List Int), ([0, 1, 2] : List Int))) hM313 con12 (⟨_, _, rfl, hx_out (R := pInts) F327, GRowsAt.of_blk' g320 rfl rfl (fun _ _ => rfl) (by decide)⟩)
  have nx338 := E335.next
  have g346 := E335.old g319
  have g353 := E335.old g326
  have ew329 : w329 = (.bool true) := by have h0 : w329 = .bool (decide (([0, 1, 2] : List Int) = [0, 1, 2])) := F337; rw [h0]; rfl
  subst ew329
  have X354 := X312.trans E335
  have hraw := w6_0_raw x M  M3 b12 M13 b21 M22 b31 M32 b42 M43 b54 M55 b67 M68 b81 M82 b96 M97 b112 M113 b129 M130 b147 M148 b166 M167 b186 M187 M209 b251 o252 c250 M256 b281 o282 c280 M286 M331
  have rw0 : Mem.mk M209.blks M209.next M209.hide [] = R231 := eR232.symm
  have rw1 : Mem.mk M256.blks M256.next M209.hide M256.log = M256 := by rw [(show M209.hide = M256.hide from ((X230).hide.trans (X278).hide.symm))]
  have rw2 : Mem.mk M256.blks M256.next (hides 224 [⟨4, 1, M209.next, M256.next⟩, ⟨3, 1, M209.next, M209.next⟩] ++ M209.hide) M256.log = hidx (hides 224 [⟨4, 1, M209.next, M256.next⟩, ⟨3, 1, M209.next, M209.next⟩]) M256 := by rw [(show M209.hide = M256.hide from ((X230).hide.trans (X278).hide.symm))]; rfl
  have rw3 : Mem.mk M286.blks M286.next M209.hide M286.log = M286 := by rw [(show M209.hide = M286.hide from ((X230).hide.trans (X309).hide.symm))]
  have rw4 : (Mem.mk M286.blks M286.next M209.hide (M286.log ++ M209.log)) = (Mem.mk M286.blks M286.next M286.hide (M286.log ++ M209.log)) := by rw [(show M209.hide = M286.hide from ((X230).hide.trans (X309).hide.symm))]
  have rw5 : (Mem.mk M286.blks M286.next M286.hide (M286.log ++ M209.log)) = M310 := ef311.symm
  try rw [rw0] at hraw
  try rw [rw1] at hraw
  try rw [rw2] at hraw
  try rw [rw3] at hraw
  try rw [rw4] at hraw
  try rw [rw5] at hraw
  exact ⟨(.bool true), M331, Ev.told_tmp noNumP mixedP Try.func6 q6_ok (by kernel_rfl) rK6 (fun B => specsB_ok (k := []) (hS6_8_10_12_13_18 B) (fun p hp => by cases hp)) (fun _ _ => rfl) hraw (hk (q_call rfl p4 l5 e6) (hk (q_eq (by rw [← eb14, ← em15]; kernel_rfl) Nat.one_ne_zero) (hk (q_eq (by rw [← eb23, ← em24]; kernel_rfl) Nat.one_ne_zero) (hk (q_eq (by rw [← eb33, ← em34]; kernel_rfl) Nat.one_ne_zero) (hk (q_eq (by rw [← eb44, ← em45]; kernel_rfl) Nat.one_ne_zero) (hk (q_eq (by rw [← eb56, ← em57]; kernel_rfl) Nat.one_ne_zero) (hk (q_eq (by rw [← eb69, ← em70]; kernel_rfl) Nat.one_ne_zero) (hk (q_eq (by rw [← eb83, ← em84]; kernel_rfl) Nat.one_ne_zero) (hk (q_eq (by rw [← eb98, ← em99]; kernel_rfl) Nat.one_ne_zero) (hk (q_eq (by rw [← eb114, ← em115]; kernel_rfl) Nat.one_ne_zero) (hk (q_eq (by rw [← eb131, ← em132]; kernel_rfl) Nat.one_ne_zero) (hk (q_eq (by rw [← eb149, ← em150]; kernel_rfl) Nat.one_ne_zero) (hk (q_eq (by rw [← eb168, ← em169]; kernel_rfl) Nat.one_ne_zero) (hk (q_eq (by rw [← eb188, ← em189]; kernel_rfl) Nat.one_ne_zero) (hk (q_call rfl p210 l211 e212) (hk (lA ⟨dA26, dS26⟩ g241 rfl) (hk (q_call rfl p257 l258 e259) (hk (lA ⟨dA26, dS26⟩ (hidx_get.2 ⟨hides_low (by simp; omega), g269⟩) rfl) (hk (q_lt ltb67M209) (hk (q_call rfl p287 l288 e289) (hk (q_apart (by rw [lg308]; simp <;> omega)) (hk (q_ld (by have := ld_one (P := Try.prog) (ty := 4) (i := 0) (hx_out (R := pBools) F328) rfl rfl dC4; simpa using this)) (hk (q_ld (by have := ld_one (P := Try.prog) (ty := 4) (i := 1) (hx_out (R := pBools) F328) rfl rfl dC4; simpa using this)) (hk (q_ld (by have := ld_one (P := Try.prog) (ty := 4) (i := 2) (hx_out (R := pBools) F328) rfl rfl dC4; simpa using this)) (hk (lC dC22 g326 rfl) (hk (q_call rfl p332 l333 e334) (hk (lC dC3 g346 rfl) (hk (lC dC22 g353 rfl) (hk (lC dC3 g346 rfl) hn))))))))))))))))))))))))))))), X354, hM336, rfl⟩
theorem w6_1_raw (x : Int) (M : Mem) (M3 : Mem) (b12 : Nat) (M13 : Mem) (b21 : Nat) (M22 : Mem) (b31 : Nat) (M32 : Mem) (b42 : Nat) (M43 : Mem) (b54 : Nat) (M55 : Mem) (b67 : Nat) (M68 : Mem) (b81 : Nat) (M82 : Mem) (b96 : Nat) (M97 : Mem) (b112 : Nat) (M113 : Mem) (b129 : Nat) (M130 : Mem) (b147 : Nat) (M148 : Mem) (b166 : Nat) (M167 : Mem) (b186 : Nat) (M187 : Mem) (M209 : Mem) (b251 : Nat) (o252 : Nat) (c250 : Nat) (M256 : Mem) (b281 : Nat) (o282 : Nat) (c280 : Nat) (M286 : Mem) (M331 : Mem) : oT Try.prog [] 100 Try.f6 q6 [(i64 x)] M [ttV 3 (.bool true) M3, ttV 14 (sli b12 0 2 3) M13, ttV 22 (sli b21 0 2 3) M22, ttV 28 (sli b31 0 1 2) M32, ttV 40 (sli b42 0 4 5) M43, ttV 48 (sli b54 0 2 3) M55, ttV 52 (sli b67 0 6 7) M68, ttV 56 (sli b81 0 3 4) M82, ttV 58 (sli b96 0 3 4) M97, ttV 60 (sli b112 0 2 3) M113, ttV 62 (sli b129 0 2 3) M130, ttV 64 (sli b147 0 4 5) M148, ttV 66 (sli b166 0 1 2) M167, ttV 68 (sli b186 0 6 7) M187, ttV 78 (i64 1) M209, ttL 88 (.agg ⟨[(i64 3), (sli b12 0 2 3)]⟩), ttV 90 (sli b251 o252 3 c250) M256, ttL 98 (.agg ⟨[(i64 3), (sli b12 0 2 3)]⟩), ttV 100 (sli b281 o282 3 c280) M286, ttL 125 (.bool false), ttL 149 (.bool false), ttL 173 (.bool false), ttL 199 (sli b96 0 3 4), ttV 201 (.bool true) M331, ttL 215 (i64 3), ttL 223 (sli b96 0 3 4), ttL 247 (i64 3)] 2 = some (.ret, some (.bool true), M331, [qC 8 [] M (.bool true) M3, .eq (abuildSlice Try.prog 24 2 [(0, (.agg ⟨[(i64 0), (i64 1), (i64 0), (i64 0)]⟩)), (1, (.agg ⟨[(i64 1), (i64 2), (i64 0), (i64 0)]⟩))] M3) (1, .val (sli b12 0 2 3), M13), .eq (abuildSlice Try.prog 24 2 [(0, (.agg ⟨[(i64 0), (i64 1), (i64 0), (i64 0)]⟩)), (1, (.agg ⟨[(i64 1), (i64 2), (i64 1), (i64 0)]⟩))] M13) (1, .val (sli b21 0 2 3), M22), .eq (abuildSlice Try.prog 24 1 [(0, (.agg ⟨[(i64 0), (i64 0), (i64 3), (i64 0)]⟩))] M22) (1, .val (sli b31 0 1 2), M32), .eq (abuildSlice Try.prog 24 4 [(0, (.agg ⟨[(i64 3), (i64 2), (i64 0), (i64 0)]⟩)), (1, (.agg ⟨[(i64 3), (i64 1), (i64 0), (i64 0)]⟩)), (2, (.agg ⟨[(i64 3), (i64 0), (i64 0), (i64 0)]⟩)), (3, (.agg ⟨[(i64 0), (i64 0), (i64 0), (i64 0)]⟩))] M32) (1, .val (sli b42 0 4 5), M43), .eq (abuildSlice Try.prog 24 2 [(0, (.agg ⟨[(i64 0), (i64 0), (i64 0), (i64 0)]⟩)), (1, (.agg ⟨[(i64 0), (i64 0), (i64 4), (i64 0)]⟩))] M43) (1, .val (sli b54 0 2 3), M55), .eq (abuildSlice Try.prog 40 6 [(0, (.agg ⟨[(i64 3), sln]⟩)), (1, (.agg ⟨[(i64 3), (sli b12 0 2 3)]⟩)), (2, (.agg ⟨[(i64 3), (sli b21 0 2 3)]⟩)), (3, (.agg ⟨[(i64 2), (sli b31 0 1 2)]⟩)), (4, (.agg ⟨[(i64 4), (sli b42 0 4 5)]⟩)), (5, (.agg ⟨[(i64 2), (sli b54 0 2 3)]⟩))] M55) (1, .val (sli b67 0 6 7), M68), .eq (abuildSlice Try.prog 22 3 [(0, (i64 0)), (1, (i64 1)), (2, (i64 2))] M68) (1, .val (sli b81 0 3 4), M82), .eq (abuildSlice Try.prog 22 3 [(0, (i64 0)), (1, (i64 2)), (2, (i64 1))] M82) (1, .val (sli b96 0 3 4), M97), .eq (abuildSlice Try.prog 22 2 [(0, (i64 0)), (1, (i64 2))] M97) (1, .val (sli b112 0 2 3), M113), .eq (abuildSlice Try.prog 22 2 [(0, (i64 1)), (1, (i64 0))] M113) (1, .val (sli b129 0 2 3), M130), .eq (abuildSlice Try.prog 22 4 [(0, (i64 1)), (1, (i64 2)), (2, (i64 0)), (3, (i64 3))] M130) (1, .val (sli b147 0 4 5), M148), .eq (abuildSlice Try.prog 22 1 [(0, (i64 1))] M148) (1, .val (sli b166 0 1 2), M167), .eq (abuildSlice Try.prog 41 6 [(0, (sli b81 0 3 4)), (1, (sli b96 0 3 4)), (2, (sli b112 0 2 3)), (3, (sli b129 0 2 3)), (4, (sli b147 0 4 5)), (5, (sli b166 0 1 2))] M167) (1, .val (sli b186 0 6 7), M187), qC 18 [(i64 x), (i64 6)] M187 (i64 1) M209, qL 26 b67 2 (Mem.mk M209.blks M209.next M209.hide []) (.agg ⟨[(i64 3), (sli b12 0 2 3)]⟩), qC 13 [(.agg ⟨[(i64 3), (sli b12 0 2 3)]⟩)] (Mem.mk M209.blks M209.next M209.hide []) (sli b251 o252 3 c250) M256, qL 26 b67 2 (Mem.mk M256.blks M256.next (hides 224 [⟨4, 1, M209.next, M256.next⟩, ⟨3, 1, M209.next, M209.next⟩] ++ M209.hide) M256.log) (.agg ⟨[(i64 3), (sli b12 0 2 3)]⟩), qT (Nat.blt b67 M209.next), qC 10 [(.agg ⟨[(i64 3), (sli b12 0 2 3)]⟩)] (Mem.mk M256.blks M256.next M209.hide M256.log) (sli b281 o282 3 c280) M286, qT (apartN [b67] M286.log), qL 4 b281 (o282 + 0) (Mem.mk M286.blks M286.next M209.hide (M286.log ++ M209.log)) (.bool false), qL 4 b281 (o282 + 1) (Mem.mk M286.blks M286.next M209.hide (M286.log ++ M209.log)) (.bool false), qL 4 b281 (o282 + 2) (Mem.mk M286.blks M286.next M209.hide (M286.log ++ M209.log)) (.bool false), qL 22 b186 1 (Mem.mk M286.blks M286.next M209.hide (M286.log ++ M209.log)) (sli b96 0 3 4), qC 12 [(sli b251 o252 3 c250), (sli b96 0 3 4)] (Mem.mk M286.blks M286.next M209.hide (M286.log ++ M209.log)) (.bool true) M331, qL 3 b67 2 M331 (i64 3), qL 22 b186 1 M331 (sli b96 0 3 4), qL 3 b67 2 M331 (i64 3)]) := by kernel_rfl
theorem w6_1 (x : Int) {M : Mem} (hM : MemOk M) (hkk : modI x 6 = 1) : ∃ v_ M', Ev Try.prog [] 6 [(i64 x)] M v_ M' ∧ Ext M M' ∧ MemOk M' ∧ v_ = .bool true := by
  obtain ⟨w1, N2, M3, p4, l5, e6, E7, hM8, F9⟩ := call_fc (x := ()) hM con8 (rfl)
  have nx10 := E7.next
  have ew1 : w1 = (.bool true) := F9
  subst ew1
  have X11 := (Ext.refl M).trans E7
  obtain ⟨b12, M13, eb14, em15, g16, E17, hM18⟩ := new_t hM8 ⟨[(i64 0), (i64 1), (i64 0), (i64 0), (i64 1), (i64 2), (i64 0), (i64 0)], 37, 4, 0, true⟩
  have nb12 : M.next ≤ b12 := by rw [← eb14]; exact X11.next
  have nx19 := E17.next
  have X20 := X11.trans E17
  obtain ⟨b21, M22, eb23, em24, g25, E26, hM27⟩ := new_t hM18 ⟨[(i64 0), (i64 1), (i64 0), (i64 0), (i64 1), (i64 2), (i64 1), (i64 0)], 37, 4, 0, true⟩
  have nb21 : M.next ≤ b21 := by rw [← eb23]; exact X20.next
  have db12b21 : b12 ≠ b21 := by have := Mem.lt_of_get g16; omega
  have g28 := E26.old g16
  have nx29 := E26.next
  have X30 := X20.trans E26
  obtain ⟨b31, M32, eb33, em34, g35, E36, hM37⟩ := new_t hM27 ⟨[(i64 0), (i64 0), (i64 3), (i64 0)], 37, 4, 0, true⟩
  have nb31 : M.next ≤ b31 := by rw [← eb33]; exact X30.next
  have db12b31 : b12 ≠ b31 := by have := Mem.lt_of_get g28; omega
  have db21b31 : b21 ≠ b31 := by have := Mem.lt_of_get g25; omega
  have g38 := E36.old g28
  have g39 := E36.old g25
  have nx40 := E36.next
  have X41 := X30.trans E36
  obtain ⟨b42, M43, eb44, em45, g46, E47, hM48⟩ := new_t hM37 ⟨[(i64 3), (i64 2), (i64 0), (i64 0), (i64 3), (i64 1), (i64 0), (i64 0), (i64 3), (i64 0), (i64 0), (i64 0), (i64 0), (i64 0), (i64 0), (i64 0)], 37, 4, 0, true⟩
  have nb42 : M.next ≤ b42 := by rw [← eb44]; exact X41.next
  have db12b42 : b12 ≠ b42 := by have := Mem.lt_of_get g38; omega
  have db21b42 : b21 ≠ b42 := by have := Mem.lt_of_get g39; omega
  have db31b42 : b31 ≠ b42 := by have := Mem.lt_of_get g35; omega
  have g49 := E47.old g38
  have g50 := E47.old g39
  have g51 := E47.old g35
  have nx52 := E47.next
  have X53 := X41.trans E47
  obtain ⟨b54, M55, eb56, em57, g58, E59, hM60⟩ := new_t hM48 ⟨[(i64 0), (i64 0), (i64 0), (i64 0), (i64 0), (i64 0), (i64 4), (i64 0)], 37, 4, 0, true⟩
  have nb54 : M.next ≤ b54 := by rw [← eb56]; exact X53.next
  have db12b54 : b12 ≠ b54 := by have := Mem.lt_of_get g49; omega
  have db21b54 : b21 ≠ b54 := by have := Mem.lt_of_get g50; omega
  have db31b54 : b31 ≠ b54 := by have := Mem.lt_of_get g51; omega
  have db42b54 : b42 ≠ b54 := by have := Mem.lt_of_get g46; omega
  have g61 := E59.old g49
  have g62 := E59.old g50
  have g63 := E59.old g51
  have g64 := E59.old g46
  have nx65 := E59.next
  have X66 := X53.trans E59
  obtain ⟨b67, M68, eb69, em70, g71, E72, hM73⟩ := new_t hM60 ⟨[(i64 3), sln, (i64 3), (sli b12 0 2 3), (i64 3), (sli b21 0 2 3), (i64 2), (sli b31 0 1 2), (i64 4), (sli b42 0 4 5), (i64 2), (sli b54 0 2 3)], 26, 2, 0, true⟩
  have nb67 : M.next ≤ b67 := by rw [← eb69]; exact X66.next
  have db12b67 : b12 ≠ b67 := by have := Mem.lt_of_get g61; omega
  have db21b67 : b21 ≠ b67 := by have := Mem.lt_of_get g62; omega
  have db31b67 : b31 ≠ b67 := by have := Mem.lt_of_get g63; omega
  have db42b67 : b42 ≠ b67 := by have := Mem.lt_of_get g64; omega
  have db54b67 : b54 ≠ b67 := by have := Mem.lt_of_get g58; omega
  have g74 := E72.old g61
  have g75 := E72.old g62
  have g76 := E72.old g63
  have g77 := E72.old g64
  have g78 := E72.old g58
  have nx79 := E72.next
  have X80 := X66.trans E72
  obtain ⟨b81, M82, eb83, em84, g85, E86, hM87⟩ := new_t hM73 ⟨[(i64 0), (i64 1), (i64 2)], 3, 1, 0, true⟩
  have nb81 : M.next ≤ b81 := by rw [← eb83]; exact X80.next
  have db12b81 : b12 ≠ b81 := by have := Mem.lt_of_get g74; omega
  have db21b81 : b21 ≠ b81 := by have := Mem.lt_of_get g75; omega
  have db31b81 : b31 ≠ b81 := by have := Mem.lt_of_get g76; omega
  have db42b81 : b42 ≠ b81 := by have := Mem.lt_of_get g77; omega
  have db54b81 : b54 ≠ b81 := by have := Mem.lt_of_get g78; omega
  have db67b81 : b67 ≠ b81 := by have := Mem.lt_of_get g71; omega
  have g88 := E86.old g74
  have g89 := E86.old g75
  have g90 := E86.old g76
  have g91 := E86.old g77
  have g92 := E86.old g78
  have g93 := E86.old g71
  have nx94 := E86.next
  have X95 := X80.trans E86
  obtain ⟨b96, M97, eb98, em99, g100, E101, hM102⟩ := new_t hM87 ⟨[(i64 0), (i64 2), (i64 1)], 3, 1, 0, true⟩
  have nb96 : M.next ≤ b96 := by rw [← eb98]; exact X95.next
  have db12b96 : b12 ≠ b96 := by have := Mem.lt_of_get g88; omega
  have db21b96 : b21 ≠ b96 := by have := Mem.lt_of_get g89; omega
  have db31b96 : b31 ≠ b96 := by have := Mem.lt_of_get g90; omega
  have db42b96 : b42 ≠ b96 := by have := Mem.lt_of_get g91; omega
  have db54b96 : b54 ≠ b96 := by have := Mem.lt_of_get g92; omega
  have db67b96 : b67 ≠ b96 := by have := Mem.lt_of_get g93; omega
  have db81b96 : b81 ≠ b96 := by have := Mem.lt_of_get g85; omega
  have g103 := E101.old g88
  have g104 := E101.old g89
  have g105 := E101.old g90
  have g106 := E101.old g91
  have g107 := E101.old g92
  have g108 := E101.old g93
  have g109 := E101.old g85
  have nx110 := E101.next
  have X111 := X95.trans E101
  obtain ⟨b112, M113, eb114, em115, g116, E117, hM118⟩ := new_t hM102 ⟨[(i64 0), (i64 2)], 3, 1, 0, true⟩
  have nb112 : M.next ≤ b112 := by rw [← eb114]; exact X111.next
  have db12b112 : b12 ≠ b112 := by have := Mem.lt_of_get g103; omega
  have db21b112 : b21 ≠ b112 := by have := Mem.lt_of_get g104; omega
  have db31b112 : b31 ≠ b112 := by have := Mem.lt_of_get g105; omega
  have db42b112 : b42 ≠ b112 := by have := Mem.lt_of_get g106; omega
  have db54b112 : b54 ≠ b112 := by have := Mem.lt_of_get g107; omega
  have db67b112 : b67 ≠ b112 := by have := Mem.lt_of_get g108; omega
  have db81b112 : b81 ≠ b112 := by have := Mem.lt_of_get g109; omega
  have db96b112 : b96 ≠ b112 := by have := Mem.lt_of_get g100; omega
  have g119 := E117.old g103
  have g120 := E117.old g104
  have g121 := E117.old g105
  have g122 := E117.old g106
  have g123 := E117.old g107
  have g124 := E117.old g108
  have g125 := E117.old g109
  have g126 := E117.old g100
  have nx127 := E117.next
  have X128 := X111.trans E117
  obtain ⟨b129, M130, eb131, em132, g133, E134, hM135⟩ := new_t hM118 ⟨[(i64 1), (i64 0)], 3, 1, 0, true⟩
  have nb129 : M.next ≤ b129 := by rw [← eb131]; exact X128.next
  have db12b129 : b12 ≠ b129 := by have := Mem.lt_of_get g119; omega
  have db21b129 : b21 ≠ b129 := by have := Mem.lt_of_get g120; omega
  have db31b129 : b31 ≠ b129 := by have := Mem.lt_of_get g121; omega
  have db42b129 : b42 ≠ b129 := by have := Mem.lt_of_get g122; omega
  have db54b129 : b54 ≠ b129 := by have := Mem.lt_of_get g123; omega
  have db67b129 : b67 ≠ b129 := by have := Mem.lt_of_get g124; omega
  have db81b129 : b81 ≠ b129 := by have := Mem.lt_of_get g125; omega
  have db96b129 : b96 ≠ b129 := by have := Mem.lt_of_get g126; omega
  have db112b129 : b112 ≠ b129 := by have := Mem.lt_of_get g116; omega
  have g136 := E134.old g119
  have g137 := E134.old g120
  have g138 := E134.old g121
  have g139 := E134.old g122
  have g140 := E134.old g123
  have g141 := E134.old g124
  have g142 := E134.old g125
  have g143 := E134.old g126
  have g144 := E134.old g116
  have nx145 := E134.next
  have X146 := X128.trans E134
  obtain ⟨b147, M148, eb149, em150, g151, E152, hM153⟩ := new_t hM135 ⟨[(i64 1), (i64 2), (i64 0), (i64 3)], 3, 1, 0, true⟩
  have nb147 : M.next ≤ b147 := by rw [← eb149]; exact X146.next
  have db12b147 : b12 ≠ b147 := by have := Mem.lt_of_get g136; omega
  have db21b147 : b21 ≠ b147 := by have := Mem.lt_of_get g137; omega
  have db31b147 : b31 ≠ b147 := by have := Mem.lt_of_get g138; omega
  have db42b147 : b42 ≠ b147 := by have := Mem.lt_of_get g139; omega
  have db54b147 : b54 ≠ b147 := by have := Mem.lt_of_get g140; omega
  have db67b147 : b67 ≠ b147 := by have := Mem.lt_of_get g141; omega
  have db81b147 : b81 ≠ b147 := by have := Mem.lt_of_get g142; omega
  have db96b147 : b96 ≠ b147 := by have := Mem.lt_of_get g143; omega
  have db112b147 : b112 ≠ b147 := by have := Mem.lt_of_get g144; omega
  have db129b147 : b129 ≠ b147 := by have := Mem.lt_of_get g133; omega
  have g154 := E152.old g136
  have g155 := E152.old g137
  have g156 := E152.old g138
  have g157 := E152.old g139
  have g158 := E152.old g140
  have g159 := E152.old g141
  have g160 := E152.old g142
  have g161 := E152.old g143
  have g162 := E152.old g144
  have g163 := E152.old g133
  have nx164 := E152.next
  have X165 := X146.trans E152
  obtain ⟨b166, M167, eb168, em169, g170, E171, hM172⟩ := new_t hM153 ⟨[(i64 1)], 3, 1, 0, true⟩
  have nb166 : M.next ≤ b166 := by rw [← eb168]; exact X165.next
  have db12b166 : b12 ≠ b166 := by have := Mem.lt_of_get g154; omega
  have db21b166 : b21 ≠ b166 := by have := Mem.lt_of_get g155; omega
  have db31b166 : b31 ≠ b166 := by have := Mem.lt_of_get g156; omega
  have db42b166 : b42 ≠ b166 := by have := Mem.lt_of_get g157; omega
  have db54b166 : b54 ≠ b166 := by have := Mem.lt_of_get g158; omega
  have db67b166 : b67 ≠ b166 := by have := Mem.lt_of_get g159; omega
  have db81b166 : b81 ≠ b166 := by have := Mem.lt_of_get g160; omega
  have db96b166 : b96 ≠ b166 := by have := Mem.lt_of_get g161; omega
  have db112b166 : b112 ≠ b166 := by have := Mem.lt_of_get g162; omega
  have db129b166 : b129 ≠ b166 := by have := Mem.lt_of_get g163; omega
  have db147b166 : b147 ≠ b166 := by have := Mem.lt_of_get g151; omega
  have g173 := E171.old g154
  have g174 := E171.old g155
  have g175 := E171.old g156
  have g176 := E171.old g157
  have g177 := E171.old g158
  have g178 := E171.old g159
  have g179 := E171.old g160
  have g180 := E171.old g161
  have g181 := E171.old g162
  have g182 := E171.old g163
  have g183 := E171.old g151
  have nx184 := E171.next
  have X185 := X165.trans E171
  obtain ⟨b186, M187, eb188, em189, g190, E191, hM192⟩ := new_t hM172 ⟨[(sli b81 0 3 4), (sli b96 0 3 4), (sli b112 0 2 3), (sli b129 0 2 3), (sli b147 0 4 5), (sli b166 0 1 2)], 22, 1, 0, true⟩
  have nb186 : M.next ≤ b186 := by rw [← eb188]; exact X185.next
  have db12b186 : b12 ≠ b186 := by have := Mem.lt_of_get g173; omega
  have db21b186 : b21 ≠ b186 := by have := Mem.lt_of_get g174; omega
  have db31b186 : b31 ≠ b186 := by have := Mem.lt_of_get g175; omega
  have db42b186 : b42 ≠ b186 := by have := Mem.lt_of_get g176; omega
  have db54b186 : b54 ≠ b186 := by have := Mem.lt_of_get g177; omega
  have db67b186 : b67 ≠ b186 := by have := Mem.lt_of_get g178; omega
  have db81b186 : b81 ≠ b186 := by have := Mem.lt_of_get g179; omega
  have db96b186 : b96 ≠ b186 := by have := Mem.lt_of_get g180; omega
  have db112b186 : b112 ≠ b186 := by have := Mem.lt_of_get g181; omega
  have db129b186 : b129 ≠ b186 := by have := Mem.lt_of_get g182; omega
  have db147b186 : b147 ≠ b186 := by have := Mem.lt_of_get g183; omega
  have db166b186 : b166 ≠ b186 := by have := Mem.lt_of_get g170; omega
  have g193 := E191.old g173
  have g194 := E191.old g174
  have g195 := E191.old g175
  have g196 := E191.old g176
  have g197 := E191.old g177
  have g198 := E191.old g178
  have g199 := E191.old g179
  have g200 := E191.old g180
  have g201 := E191.old g181
  have g202 := E191.old g182
  have g203 := E191.old g183
  have g204 := E191.old g170
  have nx205 := E191.next
  have X206 := X185.trans E191
  have ltb12M209 := Mem.lt_of_get g193
  have ltb21M209 := Mem.lt_of_get g194
  have ltb31M209 := Mem.lt_of_get g195
  have ltb42M209 := Mem.lt_of_get g196
  have ltb54M209 := Mem.lt_of_get g197
  have ltb67M209 := Mem.lt_of_get g198
  have ltb81M209 := Mem.lt_of_get g199
  have ltb96M209 := Mem.lt_of_get g200
  have ltb112M209 := Mem.lt_of_get g201
  have ltb129M209 := Mem.lt_of_get g202
  have ltb147M209 := Mem.lt_of_get g203
  have ltb166M209 := Mem.lt_of_get g204
  have ltb186M209 := Mem.lt_of_get g190
  obtain ⟨w207, N208, M209, p210, l211, e212, E213, hM214, F215⟩ := call_fc (x := (x, 6)) hM192 con18 (⟨⟨_, _, rfl, rfl, rfl⟩, rfl⟩)
  have nx216 := E213.next
  have g217 := E213.old g193
  have g218 := E213.old g194
  have g219 := E213.old g195
  have g220 := E213.old g196
  have g221 := E213.old g197
  have g222 := E213.old g198
  have g223 := E213.old g199
  have g224 := E213.old g200
  have g225 := E213.old g201
  have g226 := E213.old g202
  have g227 := E213.old g203
  have g228 := E213.old g204
  have g229 := E213.old g190
  have ew207 : w207 = i64 1 := (show w207 = i64 (modI x 6) from F215).trans (by rw [hkk])
  subst ew207
  have X230 := X206.trans E213
  obtain ⟨R231, eR232⟩ : ∃ m : Mem, m = Mem.mk M209.blks M209.next M209.hide [] := ⟨_, rfl⟩
  have X233 : Ext (Mem.mk M.blks M.next M.hide []) R231 := by rw [eR232]; exact Ext.aside (X230)
  have lg234 : R231.log = [] := by rw [eR232]
  have nxR231 : R231.next = M209.next := by rw [eR232]
  have hM235 : MemOk R231 := by rw [eR232]; exact MemOk.log hM214
  have ltb12M209 : b12 < M209.next := by have h := Mem.lt_of_get g217; exact h
  have g236 : R231.get b12 = some ⟨[(i64 0), (i64 1), (i64 0), (i64 0), (i64 1), (i64 2), (i64 0), (i64 0)], 37, 4, 0, true⟩ := by rw [eR232]; exact g217
  have ltb21M209 : b21 < M209.next := by have h := Mem.lt_of_get g218; exact h
  have g237 : R231.get b21 = some ⟨[(i64 0), (i64 1), (i64 0), (i64 0), (i64 1), (i64 2), (i64 1), (i64 0)], 37, 4, 0, true⟩ := by rw [eR232]; exact g218
  have ltb31M209 : b31 < M209.next := by have h := Mem.lt_of_get g219; exact h
  have g238 : R231.get b31 = some ⟨[(i64 0), (i64 0), (i64 3), (i64 0)], 37, 4, 0, true⟩ := by rw [eR232]; exact g219
  have ltb42M209 : b42 < M209.next := by have h := Mem.lt_of_get g220; exact h
  have g239 : R231.get b42 = some ⟨[(i64 3), (i64 2), (i64 0), (i64 0), (i64 3), (i64 1), (i64 0), (i64 0), (i64 3), (i64 0), (i64 0), (i64 0), (i64 0), (i64 0), (i64 0), (i64 0)], 37, 4, 0, true⟩ := by rw [eR232]; exact g220
  have ltb54M209 : b54 < M209.next := by have h := Mem.lt_of_get g221; exact h
  have g240 : R231.get b54 = some ⟨[(i64 0), (i64 0), (i64 0), (i64 0), (i64 0), (i64 0), (i64 4), (i64 0)], 37, 4, 0, true⟩ := by rw [eR232]; exact g221
  have ltb67M209 : b67 < M209.next := by have h := Mem.lt_of_get g222; exact h
  have g241 : R231.get b67 = some ⟨[(i64 3), sln, (i64 3), (sli b12 0 2 3), (i64 3), (sli b21 0 2 3), (i64 2), (sli b31 0 1 2), (i64 4), (sli b42 0 4 5), (i64 2), (sli b54 0 2 3)], 26, 2, 0, true⟩ := by rw [eR232]; exact g222
  have ltb81M209 : b81 < M209.next := by have h := Mem.lt_of_get g223; exact h
  have g242 : R231.get b81 = some ⟨[(i64 0), (i64 1), (i64 2)], 3, 1, 0, true⟩ := by rw [eR232]; exact g223
  have ltb96M209 : b96 < M209.next := by have h := Mem.lt_of_get g224; exact h
  have g243 : R231.get b96 = some ⟨[(i64 0), (i64 2), (i64 1)], 3, 1, 0, true⟩ := by rw [eR232]; exact g224
  have ltb112M209 : b112 < M209.next := by have h := Mem.lt_of_get g225; exact h
  have g244 : R231.get b112 = some ⟨[(i64 0), (i64 2)], 3, 1, 0, true⟩ := by rw [eR232]; exact g225
  have ltb129M209 : b129 < M209.next := by have h := Mem.lt_of_get g226; exact h
  have g245 : R231.get b129 = some ⟨[(i64 1), (i64 0)], 3, 1, 0, true⟩ := by rw [eR232]; exact g226
  have ltb147M209 : b147 < M209.next := by have h := Mem.lt_of_get g227; exact h
  have g246 : R231.get b147 = some ⟨[(i64 1), (i64 2), (i64 0), (i64 3)], 3, 1, 0, true⟩ := by rw [eR232]; exact g227
  have ltb166M209 : b166 < M209.next := by have h := Mem.lt_of_get g228; exact h
  have g247 : R231.get b166 = some ⟨[(i64 1)], 3, 1, 0, true⟩ := by rw [eR232]; exact g228
  have ltb186M209 : b186 < M209.next := by have h := Mem.lt_of_get g229; exact h
  have g248 : R231.get b186 = some ⟨[(sli b81 0 3 4), (sli b96 0 3 4), (sli b112 0 2 3), (sli b129 0 2 3), (sli b147 0 4 5), (sli b166 0 1 2)], 22, 1, 0, true⟩ := by rw [eR232]; exact g229
  have ltb12M256 := Mem.lt_of_get g236
  have ltb21M256 := Mem.lt_of_get g237
  have ltb31M256 := Mem.lt_of_get g238
  have ltb42M256 := Mem.lt_of_get g239
  have ltb54M256 := Mem.lt_of_get g240
  have ltb67M256 := Mem.lt_of_get g241
  have ltb81M256 := Mem.lt_of_get g242
  have ltb96M256 := Mem.lt_of_get g243
  have ltb112M256 := Mem.lt_of_get g244
  have ltb129M256 := Mem.lt_of_get g245
  have ltb147M256 := Mem.lt_of_get g246
  have ltb166M256 := Mem.lt_of_get g247
  have ltb186M256 := Mem.lt_of_get g248
  obtain ⟨w254, N255, M256, p257, l258, e259, E260, hM261, F262⟩ := call_fc (x := (3, kn1)) hM235 con13 (⟨⟨_, rfl, _, rfl, GRowsAt.of_blk' g236 rfl rfl (fun r hr => by simp [kn1] at hr; rcases hr with rfl | rfl <;> rfl) (by decide)⟩, kc1⟩)
  have nx263 := E260.next
  have g264 := E260.old g236
  have g265 := E260.old g237
  have g266 := E260.old g238
  have g267 := E260.old g239
  have g268 := E260.old g240
  have g269 := E260.old g241
  have g270 := E260.old g242
  have g271 := E260.old g243
  have g272 := E260.old g244
  have g273 := E260.old g245
  have g274 := E260.old g246
  have g275 := E260.old g247
  have g276 := E260.old g248
  have G253 : pInts (orderL 3 kn1) w254 (hidx [(0, R231.next)] M256) := hx_of F262
  rw [ko1] at G253
  obtain ⟨a249, c250, ew254⟩ := GRowsAt.form G253
  subst ew254
  obtain ⟨b251, o252, ea249, _⟩ := form_pos G253 (by decide)
  subst ea249
  have lg277 : M256.log = [] := by rw [← e259]; exact lg234
  have X278 := X233.trans E260
  have ltb12M286 := Mem.lt_of_get g264
  have ltb21M286 := Mem.lt_of_get g265
  have ltb31M286 := Mem.lt_of_get g266
  have ltb42M286 := Mem.lt_of_get g267
  have ltb54M286 := Mem.lt_of_get g268
  have ltb67M286 := Mem.lt_of_get g269
  have ltb81M286 := Mem.lt_of_get g270
  have ltb96M286 := Mem.lt_of_get g271
  have ltb112M286 := Mem.lt_of_get g272
  have ltb129M286 := Mem.lt_of_get g273
  have ltb147M286 := Mem.lt_of_get g274
  have ltb166M286 := Mem.lt_of_get g275
  have ltb186M286 := Mem.lt_of_get g276
  obtain ⟨w284, N285, M286, p287, l288, e289, E290, hM291, F292⟩ := call_fc (x := (3, kn1)) hM261 con10 (⟨⟨_, rfl, _, rfl, GRowsAt.of_blk' g264 rfl rfl (fun r hr => by simp [kn1] at hr; rcases hr with rfl | rfl <;> rfl) (by decide)⟩, kc1⟩)
  have nx293 := E290.next
  have F294 := hx_ext (R := pInts) G253 E290
  have g295 := E290.old g264
  have g296 := E290.old g265
  have g297 := E290.old g266
  have g298 := E290.old g267
  have g299 := E290.old g268
  have g300 := E290.old g269
  have g301 := E290.old g270
  have g302 := E290.old g271
  have g303 := E290.old g272
  have g304 := E290.old g273
  have g305 := E290.old g274
  have g306 := E290.old g275
  have g307 := E290.old g276
  have G283 : pBools (linksL (adjM 3 kn1) 3) w284 (hidx [(0, M256.next)] M286) := hx_of F292
  rw [kl1] at G283
  obtain ⟨a279, c280, ew284⟩ := GRowsAt.form G283
  subst ew284
  obtain ⟨b281, o282, ea279, _⟩ := form_pos G283 (by decide)
  subst ea279
  have lg308 : M286.log = [] := by rw [← e289]; exact lg277
  have X309 := X278.trans E290
  obtain ⟨M310, ef311⟩ : ∃ m : Mem, m = (Mem.mk M286.blks M286.next M286.hide (M286.log ++ M209.log)) := ⟨_, rfl⟩
  have X312 : Ext M M310 := by rw [ef311]; exact Ext.join (X230) (X309)
  have hM313 : MemOk M310 := by rw [ef311]; exact hM291
  have g314 : M310.get b12 = some ⟨[(i64 0), (i64 1), (i64 0), (i64 0), (i64 1), (i64 2), (i64 0), (i64 0)], 37, 4, 0, true⟩ := by rw [ef311]; exact g295
  have g315 : M310.get b21 = some ⟨[(i64 0), (i64 1), (i64 0), (i64 0), (i64 1), (i64 2), (i64 1), (i64 0)], 37, 4, 0, true⟩ := by rw [ef311]; exact g296
  have g316 : M310.get b31 = some ⟨[(i64 0), (i64 0), (i64 3), (i64 0)], 37, 4, 0, true⟩ := by rw [ef311]; exact g297
  have g317 : M310.get b42 = some ⟨[(i64 3), (i64 2), (i64 0), (i64 0), (i64 3), (i64 1), (i64 0), (i64 0), (i64 3), (i64 0), (i64 0), (i64 0), (i64 0), (i64 0), (i64 0), (i64 0)], 37, 4, 0, true⟩ := by rw [ef311]; exact g298
  have g318 : M310.get b54 = some ⟨[(i64 0), (i64 0), (i64 0), (i64 0), (i64 0), (i64 0), (i64 4), (i64 0)], 37, 4, 0, true⟩ := by rw [ef311]; exact g299
  have g319 : M310.get b67 = some ⟨[(i64 3), sln, (i64 3), (sli b12 0 2 3), (i64 3), (sli b21 0 2 3), (i64 2), (sli b31 0 1 2), (i64 4), (sli b42 0 4 5), (i64 2), (sli b54 0 2 3)], 26, 2, 0, true⟩ := by rw [ef311]; exact g300
  have g320 : M310.get b81 = some ⟨[(i64 0), (i64 1), (i64 2)], 3, 1, 0, true⟩ := by rw [ef311]; exact g301
  have g321 : M310.get b96 = some ⟨[(i64 0), (i64 2), (i64 1)], 3, 1, 0, true⟩ := by rw [ef311]; exact g302
  have g322 : M310.get b112 = some ⟨[(i64 0), (i64 2)], 3, 1, 0, true⟩ := by rw [ef311]; exact g303
  have g323 : M310.get b129 = some ⟨[(i64 1), (i64 0)], 3, 1, 0, true⟩ := by rw [ef311]; exact g304
  have g324 : M310.get b147 = some ⟨[(i64 1), (i64 2), (i64 0), (i64 3)], 3, 1, 0, true⟩ := by rw [ef311]; exact g305
  have g325 : M310.get b166 = some ⟨[(i64 1)], 3, 1, 0, true⟩ := by rw [ef311]; exact g306
  have g326 : M310.get b186 = some ⟨[(sli b81 0 3 4), (sli b96 0 3 4), (sli b112 0 2 3), (sli b129 0 2 3), (sli b147 0 4 5), (sli b166 0 1 2)], 22, 1, 0, true⟩ := by rw [ef311]; exact g307
  have F327 := hx_still (R := pInts) (M' := M310) F294 (fun id b h => by rw [ef311]; exact h)
  have F328 := hx_still (R := pBools) (M' := M310) G283 (fun id b h => by rw [ef311]; exact h)
  have ltb12M331 := Mem.lt_of_get g314
  have ltb21M331 := Mem.lt_of_get g315
  have ltb31M331 := Mem.lt_of_get g316
  have ltb42M331 := Mem.lt_of_get g317
  have ltb54M331 := Mem.lt_of_get g318
  have ltb67M331 := Mem.lt_of_get g319
  have ltb81M331 := Mem.lt_of_get g320
  have ltb96M331 := Mem.lt_of_get g321
  have ltb112M331 := Mem.lt_of_get g322
  have ltb129M331 := Mem.lt_of_get g323
  have ltb147M331 := Mem.lt_of_get g324
  have ltb166M331 := Mem.lt_of_get g325
  have ltb186M331 := Mem.lt_of_get g326
  obtain ⟨w329, N330, M331, p332, l333, e334, E335, hM336, F337⟩ := call_fc (x := (([0, 2, 1] : List Int), ([0, 2, 1] : List Int))) hM313 con12 (⟨_, _, rfl, hx_out (R := pInts) F327, GRowsAt.of_blk' g321 rfl rfl (fun _ _ => rfl) (by decide)⟩)
  have nx338 := E335.next
  have g346 := E335.old g319
  have g353 := E335.old g326
  have ew329 : w329 = (.bool true) := by have h0 : w329 = .bool (decide (([0, 2, 1] : List Int) = [0, 2, 1])) := F337; rw [h0]; rfl
  subst ew329
  have X354 := X312.trans E335
  have hraw := w6_1_raw x M  M3 b12 M13 b21 M22 b31 M32 b42 M43 b54 M55 b67 M68 b81 M82 b96 M97 b112 M113 b129 M130 b147 M148 b166 M167 b186 M187 M209 b251 o252 c250 M256 b281 o282 c280 M286 M331
  have rw0 : Mem.mk M209.blks M209.next M209.hide [] = R231 := eR232.symm
  have rw1 : Mem.mk M256.blks M256.next M209.hide M256.log = M256 := by rw [(show M209.hide = M256.hide from ((X230).hide.trans (X278).hide.symm))]
  have rw2 : Mem.mk M256.blks M256.next (hides 224 [⟨4, 1, M209.next, M256.next⟩, ⟨3, 1, M209.next, M209.next⟩] ++ M209.hide) M256.log = hidx (hides 224 [⟨4, 1, M209.next, M256.next⟩, ⟨3, 1, M209.next, M209.next⟩]) M256 := by rw [(show M209.hide = M256.hide from ((X230).hide.trans (X278).hide.symm))]; rfl
  have rw3 : Mem.mk M286.blks M286.next M209.hide M286.log = M286 := by rw [(show M209.hide = M286.hide from ((X230).hide.trans (X309).hide.symm))]
  have rw4 : (Mem.mk M286.blks M286.next M209.hide (M286.log ++ M209.log)) = (Mem.mk M286.blks M286.next M286.hide (M286.log ++ M209.log)) := by rw [(show M209.hide = M286.hide from ((X230).hide.trans (X309).hide.symm))]
  have rw5 : (Mem.mk M286.blks M286.next M286.hide (M286.log ++ M209.log)) = M310 := ef311.symm
  try rw [rw0] at hraw
  try rw [rw1] at hraw
  try rw [rw2] at hraw
  try rw [rw3] at hraw
  try rw [rw4] at hraw
  try rw [rw5] at hraw
  exact ⟨(.bool true), M331, Ev.told_tmp noNumP mixedP Try.func6 q6_ok (by kernel_rfl) rK6 (fun B => specsB_ok (k := []) (hS6_8_10_12_13_18 B) (fun p hp => by cases hp)) (fun _ _ => rfl) hraw (hk (q_call rfl p4 l5 e6) (hk (q_eq (by rw [← eb14, ← em15]; kernel_rfl) Nat.one_ne_zero) (hk (q_eq (by rw [← eb23, ← em24]; kernel_rfl) Nat.one_ne_zero) (hk (q_eq (by rw [← eb33, ← em34]; kernel_rfl) Nat.one_ne_zero) (hk (q_eq (by rw [← eb44, ← em45]; kernel_rfl) Nat.one_ne_zero) (hk (q_eq (by rw [← eb56, ← em57]; kernel_rfl) Nat.one_ne_zero) (hk (q_eq (by rw [← eb69, ← em70]; kernel_rfl) Nat.one_ne_zero) (hk (q_eq (by rw [← eb83, ← em84]; kernel_rfl) Nat.one_ne_zero) (hk (q_eq (by rw [← eb98, ← em99]; kernel_rfl) Nat.one_ne_zero) (hk (q_eq (by rw [← eb114, ← em115]; kernel_rfl) Nat.one_ne_zero) (hk (q_eq (by rw [← eb131, ← em132]; kernel_rfl) Nat.one_ne_zero) (hk (q_eq (by rw [← eb149, ← em150]; kernel_rfl) Nat.one_ne_zero) (hk (q_eq (by rw [← eb168, ← em169]; kernel_rfl) Nat.one_ne_zero) (hk (q_eq (by rw [← eb188, ← em189]; kernel_rfl) Nat.one_ne_zero) (hk (q_call rfl p210 l211 e212) (hk (lA ⟨dA26, dS26⟩ g241 rfl) (hk (q_call rfl p257 l258 e259) (hk (lA ⟨dA26, dS26⟩ (hidx_get.2 ⟨hides_low (by simp; omega), g269⟩) rfl) (hk (q_lt ltb67M209) (hk (q_call rfl p287 l288 e289) (hk (q_apart (by rw [lg308]; simp <;> omega)) (hk (q_ld (by have := ld_one (P := Try.prog) (ty := 4) (i := 0) (hx_out (R := pBools) F328) rfl rfl dC4; simpa using this)) (hk (q_ld (by have := ld_one (P := Try.prog) (ty := 4) (i := 1) (hx_out (R := pBools) F328) rfl rfl dC4; simpa using this)) (hk (q_ld (by have := ld_one (P := Try.prog) (ty := 4) (i := 2) (hx_out (R := pBools) F328) rfl rfl dC4; simpa using this)) (hk (lC dC22 g326 rfl) (hk (q_call rfl p332 l333 e334) (hk (lC dC3 g346 rfl) (hk (lC dC22 g353 rfl) (hk (lC dC3 g346 rfl) hn))))))))))))))))))))))))))))), X354, hM336, rfl⟩
theorem w6_2_raw (x : Int) (M : Mem) (M3 : Mem) (b12 : Nat) (M13 : Mem) (b21 : Nat) (M22 : Mem) (b31 : Nat) (M32 : Mem) (b42 : Nat) (M43 : Mem) (b54 : Nat) (M55 : Mem) (b67 : Nat) (M68 : Mem) (b81 : Nat) (M82 : Mem) (b96 : Nat) (M97 : Mem) (b112 : Nat) (M113 : Mem) (b129 : Nat) (M130 : Mem) (b147 : Nat) (M148 : Mem) (b166 : Nat) (M167 : Mem) (b186 : Nat) (M187 : Mem) (M209 : Mem) (b251 : Nat) (o252 : Nat) (c250 : Nat) (M256 : Mem) (b281 : Nat) (o282 : Nat) (c280 : Nat) (M286 : Mem) (M331 : Mem) : oT Try.prog [] 100 Try.f6 q6 [(i64 x)] M [ttV 3 (.bool true) M3, ttV 14 (sli b12 0 2 3) M13, ttV 22 (sli b21 0 2 3) M22, ttV 28 (sli b31 0 1 2) M32, ttV 40 (sli b42 0 4 5) M43, ttV 48 (sli b54 0 2 3) M55, ttV 52 (sli b67 0 6 7) M68, ttV 56 (sli b81 0 3 4) M82, ttV 58 (sli b96 0 3 4) M97, ttV 60 (sli b112 0 2 3) M113, ttV 62 (sli b129 0 2 3) M130, ttV 64 (sli b147 0 4 5) M148, ttV 66 (sli b166 0 1 2) M167, ttV 68 (sli b186 0 6 7) M187, ttV 78 (i64 2) M209, ttL 88 (.agg ⟨[(i64 3), (sli b21 0 2 3)]⟩), ttV 90 (sli b251 o252 2 c250) M256, ttL 98 (.agg ⟨[(i64 3), (sli b21 0 2 3)]⟩), ttV 100 (sli b281 o282 3 c280) M286, ttL 125 (.bool false), ttL 149 (.bool true), ttL 179 (.bool false), ttL 205 (sli b112 0 2 3), ttV 207 (.bool true) M331, ttL 221 (i64 3), ttL 229 (sli b112 0 2 3), ttL 253 (i64 3)] 2 = some (.ret, some (.bool true), M331, [qC 8 [] M (.bool true) M3, .eq (abuildSlice Try.prog 24 2 [(0, (.agg ⟨[(i64 0), (i64 1), (i64 0), (i64 0)]⟩)), (1, (.agg ⟨[(i64 1), (i64 2), (i64 0), (i64 0)]⟩))] M3) (1, .val (sli b12 0 2 3), M13), .eq (abuildSlice Try.prog 24 2 [(0, (.agg ⟨[(i64 0), (i64 1), (i64 0), (i64 0)]⟩)), (1, (.agg ⟨[(i64 1), (i64 2), (i64 1), (i64 0)]⟩))] M13) (1, .val (sli b21 0 2 3), M22), .eq (abuildSlice Try.prog 24 1 [(0, (.agg ⟨[(i64 0), (i64 0), (i64 3), (i64 0)]⟩))] M22) (1, .val (sli b31 0 1 2), M32), .eq (abuildSlice Try.prog 24 4 [(0, (.agg ⟨[(i64 3), (i64 2), (i64 0), (i64 0)]⟩)), (1, (.agg ⟨[(i64 3), (i64 1), (i64 0), (i64 0)]⟩)), (2, (.agg ⟨[(i64 3), (i64 0), (i64 0), (i64 0)]⟩)), (3, (.agg ⟨[(i64 0), (i64 0), (i64 0), (i64 0)]⟩))] M32) (1, .val (sli b42 0 4 5), M43), .eq (abuildSlice Try.prog 24 2 [(0, (.agg ⟨[(i64 0), (i64 0), (i64 0), (i64 0)]⟩)), (1, (.agg ⟨[(i64 0), (i64 0), (i64 4), (i64 0)]⟩))] M43) (1, .val (sli b54 0 2 3), M55), .eq (abuildSlice Try.prog 40 6 [(0, (.agg ⟨[(i64 3), sln]⟩)), (1, (.agg ⟨[(i64 3), (sli b12 0 2 3)]⟩)), (2, (.agg ⟨[(i64 3), (sli b21 0 2 3)]⟩)), (3, (.agg ⟨[(i64 2), (sli b31 0 1 2)]⟩)), (4, (.agg ⟨[(i64 4), (sli b42 0 4 5)]⟩)), (5, (.agg ⟨[(i64 2), (sli b54 0 2 3)]⟩))] M55) (1, .val (sli b67 0 6 7), M68), .eq (abuildSlice Try.prog 22 3 [(0, (i64 0)), (1, (i64 1)), (2, (i64 2))] M68) (1, .val (sli b81 0 3 4), M82), .eq (abuildSlice Try.prog 22 3 [(0, (i64 0)), (1, (i64 2)), (2, (i64 1))] M82) (1, .val (sli b96 0 3 4), M97), .eq (abuildSlice Try.prog 22 2 [(0, (i64 0)), (1, (i64 2))] M97) (1, .val (sli b112 0 2 3), M113), .eq (abuildSlice Try.prog 22 2 [(0, (i64 1)), (1, (i64 0))] M113) (1, .val (sli b129 0 2 3), M130), .eq (abuildSlice Try.prog 22 4 [(0, (i64 1)), (1, (i64 2)), (2, (i64 0)), (3, (i64 3))] M130) (1, .val (sli b147 0 4 5), M148), .eq (abuildSlice Try.prog 22 1 [(0, (i64 1))] M148) (1, .val (sli b166 0 1 2), M167), .eq (abuildSlice Try.prog 41 6 [(0, (sli b81 0 3 4)), (1, (sli b96 0 3 4)), (2, (sli b112 0 2 3)), (3, (sli b129 0 2 3)), (4, (sli b147 0 4 5)), (5, (sli b166 0 1 2))] M167) (1, .val (sli b186 0 6 7), M187), qC 18 [(i64 x), (i64 6)] M187 (i64 2) M209, qL 26 b67 4 (Mem.mk M209.blks M209.next M209.hide []) (.agg ⟨[(i64 3), (sli b21 0 2 3)]⟩), qC 13 [(.agg ⟨[(i64 3), (sli b21 0 2 3)]⟩)] (Mem.mk M209.blks M209.next M209.hide []) (sli b251 o252 2 c250) M256, qL 26 b67 4 (Mem.mk M256.blks M256.next (hides 224 [⟨4, 1, M209.next, M256.next⟩, ⟨3, 1, M209.next, M209.next⟩] ++ M209.hide) M256.log) (.agg ⟨[(i64 3), (sli b21 0 2 3)]⟩), qT (Nat.blt b67 M209.next), qC 10 [(.agg ⟨[(i64 3), (sli b21 0 2 3)]⟩)] (Mem.mk M256.blks M256.next M209.hide M256.log) (sli b281 o282 3 c280) M286, qT (apartN [b67] M286.log), qL 4 b281 (o282 + 0) (Mem.mk M286.blks M286.next M209.hide (M286.log ++ M209.log)) (.bool false), qL 4 b281 (o282 + 1) (Mem.mk M286.blks M286.next M209.hide (M286.log ++ M209.log)) (.bool true), qL 4 b281 (o282 + 2) (Mem.mk M286.blks M286.next M209.hide (M286.log ++ M209.log)) (.bool false), qL 22 b186 2 (Mem.mk M286.blks M286.next M209.hide (M286.log ++ M209.log)) (sli b112 0 2 3), qC 12 [(sli b251 o252 2 c250), (sli b112 0 2 3)] (Mem.mk M286.blks M286.next M209.hide (M286.log ++ M209.log)) (.bool true) M331, qL 3 b67 4 M331 (i64 3), qL 22 b186 2 M331 (sli b112 0 2 3), qL 3 b67 4 M331 (i64 3)]) := by kernel_rfl
theorem w6_2 (x : Int) {M : Mem} (hM : MemOk M) (hkk : modI x 6 = 2) : ∃ v_ M', Ev Try.prog [] 6 [(i64 x)] M v_ M' ∧ Ext M M' ∧ MemOk M' ∧ v_ = .bool true := by
  obtain ⟨w1, N2, M3, p4, l5, e6, E7, hM8, F9⟩ := call_fc (x := ()) hM con8 (rfl)
  have nx10 := E7.next
  have ew1 : w1 = (.bool true) := F9
  subst ew1
  have X11 := (Ext.refl M).trans E7
  obtain ⟨b12, M13, eb14, em15, g16, E17, hM18⟩ := new_t hM8 ⟨[(i64 0), (i64 1), (i64 0), (i64 0), (i64 1), (i64 2), (i64 0), (i64 0)], 37, 4, 0, true⟩
  have nb12 : M.next ≤ b12 := by rw [← eb14]; exact X11.next
  have nx19 := E17.next
  have X20 := X11.trans E17
  obtain ⟨b21, M22, eb23, em24, g25, E26, hM27⟩ := new_t hM18 ⟨[(i64 0), (i64 1), (i64 0), (i64 0), (i64 1), (i64 2), (i64 1), (i64 0)], 37, 4, 0, true⟩
  have nb21 : M.next ≤ b21 := by rw [← eb23]; exact X20.next
  have db12b21 : b12 ≠ b21 := by have := Mem.lt_of_get g16; omega
  have g28 := E26.old g16
  have nx29 := E26.next
  have X30 := X20.trans E26
  obtain ⟨b31, M32, eb33, em34, g35, E36, hM37⟩ := new_t hM27 ⟨[(i64 0), (i64 0), (i64 3), (i64 0)], 37, 4, 0, true⟩
  have nb31 : M.next ≤ b31 := by rw [← eb33]; exact X30.next
  have db12b31 : b12 ≠ b31 := by have := Mem.lt_of_get g28; omega
  have db21b31 : b21 ≠ b31 := by have := Mem.lt_of_get g25; omega
  have g38 := E36.old g28
  have g39 := E36.old g25
  have nx40 := E36.next
  have X41 := X30.trans E36
  obtain ⟨b42, M43, eb44, em45, g46, E47, hM48⟩ := new_t hM37 ⟨[(i64 3), (i64 2), (i64 0), (i64 0), (i64 3), (i64 1), (i64 0), (i64 0), (i64 3), (i64 0), (i64 0), (i64 0), (i64 0), (i64 0), (i64 0), (i64 0)], 37, 4, 0, true⟩
  have nb42 : M.next ≤ b42 := by rw [← eb44]; exact X41.next
  have db12b42 : b12 ≠ b42 := by have := Mem.lt_of_get g38; omega
  have db21b42 : b21 ≠ b42 := by have := Mem.lt_of_get g39; omega
  have db31b42 : b31 ≠ b42 := by have := Mem.lt_of_get g35; omega
  have g49 := E47.old g38
  have g50 := E47.old g39
  have g51 := E47.old g35
  have nx52 := E47.next
  have X53 := X41.trans E47
  obtain ⟨b54, M55, eb56, em57, g58, E59, hM60⟩ := new_t hM48 ⟨[(i64 0), (i64 0), (i64 0), (i64 0), (i64 0), (i64 0), (i64 4), (i64 0)], 37, 4, 0, true⟩
  have nb54 : M.next ≤ b54 := by rw [← eb56]; exact X53.next
  have db12b54 : b12 ≠ b54 := by have := Mem.lt_of_get g49; omega
  have db21b54 : b21 ≠ b54 := by have := Mem.lt_of_get g50; omega
  have db31b54 : b31 ≠ b54 := by have := Mem.lt_of_get g51; omega
  have db42b54 : b42 ≠ b54 := by have := Mem.lt_of_get g46; omega
  have g61 := E59.old g49
  have g62 := E59.old g50
  have g63 := E59.old g51
  have g64 := E59.old g46
  have nx65 := E59.next
  have X66 := X53.trans E59
  obtain ⟨b67, M68, eb69, em70, g71, E72, hM73⟩ := new_t hM60 ⟨[(i64 3), sln, (i64 3), (sli b12 0 2 3), (i64 3), (sli b21 0 2 3), (i64 2), (sli b31 0 1 2), (i64 4), (sli b42 0 4 5), (i64 2), (sli b54 0 2 3)], 26, 2, 0, true⟩
  have nb67 : M.next ≤ b67 := by rw [← eb69]; exact X66.next
  have db12b67 : b12 ≠ b67 := by have := Mem.lt_of_get g61; omega
  have db21b67 : b21 ≠ b67 := by have := Mem.lt_of_get g62; omega
  have db31b67 : b31 ≠ b67 := by have := Mem.lt_of_get g63; omega
  have db42b67 : b42 ≠ b67 := by have := Mem.lt_of_get g64; omega
  have db54b67 : b54 ≠ b67 := by have := Mem.lt_of_get g58; omega
  have g74 := E72.old g61
  have g75 := E72.old g62
  have g76 := E72.old g63
  have g77 := E72.old g64
  have g78 := E72.old g58
  have nx79 := E72.next
  have X80 := X66.trans E72
  obtain ⟨b81, M82, eb83, em84, g85, E86, hM87⟩ := new_t hM73 ⟨[(i64 0), (i64 1), (i64 2)], 3, 1, 0, true⟩
  have nb81 : M.next ≤ b81 := by rw [← eb83]; exact X80.next
  have db12b81 : b12 ≠ b81 := by have := Mem.lt_of_get g74; omega
  have db21b81 : b21 ≠ b81 := by have := Mem.lt_of_get g75; omega
  have db31b81 : b31 ≠ b81 := by have := Mem.lt_of_get g76; omega
  have db42b81 : b42 ≠ b81 := by have := Mem.lt_of_get g77; omega
  have db54b81 : b54 ≠ b81 := by have := Mem.lt_of_get g78; omega
  have db67b81 : b67 ≠ b81 := by have := Mem.lt_of_get g71; omega
  have g88 := E86.old g74
  have g89 := E86.old g75
  have g90 := E86.old g76
  have g91 := E86.old g77
  have g92 := E86.old g78
  have g93 := E86.old g71
  have nx94 := E86.next
  have X95 := X80.trans E86
  obtain ⟨b96, M97, eb98, em99, g100, E101, hM102⟩ := new_t hM87 ⟨[(i64 0), (i64 2), (i64 1)], 3, 1, 0, true⟩
  have nb96 : M.next ≤ b96 := by rw [← eb98]; exact X95.next
  have db12b96 : b12 ≠ b96 := by have := Mem.lt_of_get g88; omega
  have db21b96 : b21 ≠ b96 := by have := Mem.lt_of_get g89; omega
  have db31b96 : b31 ≠ b96 := by have := Mem.lt_of_get g90; omega
  have db42b96 : b42 ≠ b96 := by have := Mem.lt_of_get g91; omega
  have db54b96 : b54 ≠ b96 := by have := Mem.lt_of_get g92; omega
  have db67b96 : b67 ≠ b96 := by have := Mem.lt_of_get g93; omega
  have db81b96 : b81 ≠ b96 := by have := Mem.lt_of_get g85; omega
  have g103 := E101.old g88
  have g104 := E101.old g89
  have g105 := E101.old g90
  have g106 := E101.old g91
  have g107 := E101.old g92
  have g108 := E101.old g93
  have g109 := E101.old g85
  have nx110 := E101.next
  have X111 := X95.trans E101
  obtain ⟨b112, M113, eb114, em115, g116, E117, hM118⟩ := new_t hM102 ⟨[(i64 0), (i64 2)], 3, 1, 0, true⟩
  have nb112 : M.next ≤ b112 := by rw [← eb114]; exact X111.next
  have db12b112 : b12 ≠ b112 := by have := Mem.lt_of_get g103; omega
  have db21b112 : b21 ≠ b112 := by have := Mem.lt_of_get g104; omega
  have db31b112 : b31 ≠ b112 := by have := Mem.lt_of_get g105; omega
  have db42b112 : b42 ≠ b112 := by have := Mem.lt_of_get g106; omega
  have db54b112 : b54 ≠ b112 := by have := Mem.lt_of_get g107; omega
  have db67b112 : b67 ≠ b112 := by have := Mem.lt_of_get g108; omega
  have db81b112 : b81 ≠ b112 := by have := Mem.lt_of_get g109; omega
  have db96b112 : b96 ≠ b112 := by have := Mem.lt_of_get g100; omega
  have g119 := E117.old g103
  have g120 := E117.old g104
  have g121 := E117.old g105
  have g122 := E117.old g106
  have g123 := E117.old g107
  have g124 := E117.old g108
  have g125 := E117.old g109
  have g126 := E117.old g100
  have nx127 := E117.next
  have X128 := X111.trans E117
  obtain ⟨b129, M130, eb131, em132, g133, E134, hM135⟩ := new_t hM118 ⟨[(i64 1), (i64 0)], 3, 1, 0, true⟩
  have nb129 : M.next ≤ b129 := by rw [← eb131]; exact X128.next
  have db12b129 : b12 ≠ b129 := by have := Mem.lt_of_get g119; omega
  have db21b129 : b21 ≠ b129 := by have := Mem.lt_of_get g120; omega
  have db31b129 : b31 ≠ b129 := by have := Mem.lt_of_get g121; omega
  have db42b129 : b42 ≠ b129 := by have := Mem.lt_of_get g122; omega
  have db54b129 : b54 ≠ b129 := by have := Mem.lt_of_get g123; omega
  have db67b129 : b67 ≠ b129 := by have := Mem.lt_of_get g124; omega
  have db81b129 : b81 ≠ b129 := by have := Mem.lt_of_get g125; omega
  have db96b129 : b96 ≠ b129 := by have := Mem.lt_of_get g126; omega
  have db112b129 : b112 ≠ b129 := by have := Mem.lt_of_get g116; omega
  have g136 := E134.old g119
  have g137 := E134.old g120
  have g138 := E134.old g121
  have g139 := E134.old g122
  have g140 := E134.old g123
  have g141 := E134.old g124
  have g142 := E134.old g125
  have g143 := E134.old g126
  have g144 := E134.old g116
  have nx145 := E134.next
  have X146 := X128.trans E134
  obtain ⟨b147, M148, eb149, em150, g151, E152, hM153⟩ := new_t hM135 ⟨[(i64 1), (i64 2), (i64 0), (i64 3)], 3, 1, 0, true⟩
  have nb147 : M.next ≤ b147 := by rw [← eb149]; exact X146.next
  have db12b147 : b12 ≠ b147 := by have := Mem.lt_of_get g136; omega
  have db21b147 : b21 ≠ b147 := by have := Mem.lt_of_get g137; omega
  have db31b147 : b31 ≠ b147 := by have := Mem.lt_of_get g138; omega
  have db42b147 : b42 ≠ b147 := by have := Mem.lt_of_get g139; omega
  have db54b147 : b54 ≠ b147 := by have := Mem.lt_of_get g140; omega
  have db67b147 : b67 ≠ b147 := by have := Mem.lt_of_get g141; omega
  have db81b147 : b81 ≠ b147 := by have := Mem.lt_of_get g142; omega
  have db96b147 : b96 ≠ b147 := by have := Mem.lt_of_get g143; omega
  have db112b147 : b112 ≠ b147 := by have := Mem.lt_of_get g144; omega
  have db129b147 : b129 ≠ b147 := by have := Mem.lt_of_get g133; omega
  have g154 := E152.old g136
  have g155 := E152.old g137
  have g156 := E152.old g138
  have g157 := E152.old g139
  have g158 := E152.old g140
  have g159 := E152.old g141
  have g160 := E152.old g142
  have g161 := E152.old g143
  have g162 := E152.old g144
  have g163 := E152.old g133
  have nx164 := E152.next
  have X165 := X146.trans E152
  obtain ⟨b166, M167, eb168, em169, g170, E171, hM172⟩ := new_t hM153 ⟨[(i64 1)], 3, 1, 0, true⟩
  have nb166 : M.next ≤ b166 := by rw [← eb168]; exact X165.next
  have db12b166 : b12 ≠ b166 := by have := Mem.lt_of_get g154; omega
  have db21b166 : b21 ≠ b166 := by have := Mem.lt_of_get g155; omega
  have db31b166 : b31 ≠ b166 := by have := Mem.lt_of_get g156; omega
  have db42b166 : b42 ≠ b166 := by have := Mem.lt_of_get g157; omega
  have db54b166 : b54 ≠ b166 := by have := Mem.lt_of_get g158; omega
  have db67b166 : b67 ≠ b166 := by have := Mem.lt_of_get g159; omega
  have db81b166 : b81 ≠ b166 := by have := Mem.lt_of_get g160; omega
  have db96b166 : b96 ≠ b166 := by have := Mem.lt_of_get g161; omega
  have db112b166 : b112 ≠ b166 := by have := Mem.lt_of_get g162; omega
  have db129b166 : b129 ≠ b166 := by have := Mem.lt_of_get g163; omega
  have db147b166 : b147 ≠ b166 := by have := Mem.lt_of_get g151; omega
  have g173 := E171.old g154
  have g174 := E171.old g155
  have g175 := E171.old g156
  have g176 := E171.old g157
  have g177 := E171.old g158
  have g178 := E171.old g159
  have g179 := E171.old g160
  have g180 := E171.old g161
  have g181 := E171.old g162
  have g182 := E171.old g163
  have g183 := E171.old g151
  have nx184 := E171.next
  have X185 := X165.trans E171
  obtain ⟨b186, M187, eb188, em189, g190, E191, hM192⟩ := new_t hM172 ⟨[(sli b81 0 3 4), (sli b96 0 3 4), (sli b112 0 2 3), (sli b129 0 2 3), (sli b147 0 4 5), (sli b166 0 1 2)], 22, 1, 0, true⟩
  have nb186 : M.next ≤ b186 := by rw [← eb188]; exact X185.next
  have db12b186 : b12 ≠ b186 := by have := Mem.lt_of_get g173; omega
  have db21b186 : b21 ≠ b186 := by have := Mem.lt_of_get g174; omega
  have db31b186 : b31 ≠ b186 := by have := Mem.lt_of_get g175; omega
  have db42b186 : b42 ≠ b186 := by have := Mem.lt_of_get g176; omega
  have db54b186 : b54 ≠ b186 := by have := Mem.lt_of_get g177; omega
  have db67b186 : b67 ≠ b186 := by have := Mem.lt_of_get g178; omega
  have db81b186 : b81 ≠ b186 := by have := Mem.lt_of_get g179; omega
  have db96b186 : b96 ≠ b186 := by have := Mem.lt_of_get g180; omega
  have db112b186 : b112 ≠ b186 := by have := Mem.lt_of_get g181; omega
  have db129b186 : b129 ≠ b186 := by have := Mem.lt_of_get g182; omega
  have db147b186 : b147 ≠ b186 := by have := Mem.lt_of_get g183; omega
  have db166b186 : b166 ≠ b186 := by have := Mem.lt_of_get g170; omega
  have g193 := E191.old g173
  have g194 := E191.old g174
  have g195 := E191.old g175
  have g196 := E191.old g176
  have g197 := E191.old g177
  have g198 := E191.old g178
  have g199 := E191.old g179
  have g200 := E191.old g180
  have g201 := E191.old g181
  have g202 := E191.old g182
  have g203 := E191.old g183
  have g204 := E191.old g170
  have nx205 := E191.next
  have X206 := X185.trans E191
  have ltb12M209 := Mem.lt_of_get g193
  have ltb21M209 := Mem.lt_of_get g194
  have ltb31M209 := Mem.lt_of_get g195
  have ltb42M209 := Mem.lt_of_get g196
  have ltb54M209 := Mem.lt_of_get g197
  have ltb67M209 := Mem.lt_of_get g198
  have ltb81M209 := Mem.lt_of_get g199
  have ltb96M209 := Mem.lt_of_get g200
  have ltb112M209 := Mem.lt_of_get g201
  have ltb129M209 := Mem.lt_of_get g202
  have ltb147M209 := Mem.lt_of_get g203
  have ltb166M209 := Mem.lt_of_get g204
  have ltb186M209 := Mem.lt_of_get g190
  obtain ⟨w207, N208, M209, p210, l211, e212, E213, hM214, F215⟩ := call_fc (x := (x, 6)) hM192 con18 (⟨⟨_, _, rfl, rfl, rfl⟩, rfl⟩)
  have nx216 := E213.next
  have g217 := E213.old g193
  have g218 := E213.old g194
  have g219 := E213.old g195
  have g220 := E213.old g196
  have g221 := E213.old g197
  have g222 := E213.old g198
  have g223 := E213.old g199
  have g224 := E213.old g200
  have g225 := E213.old g201
  have g226 := E213.old g202
  have g227 := E213.old g203
  have g228 := E213.old g204
  have g229 := E213.old g190
  have ew207 : w207 = i64 2 := (show w207 = i64 (modI x 6) from F215).trans (by rw [hkk])
  subst ew207
  have X230 := X206.trans E213
  obtain ⟨R231, eR232⟩ : ∃ m : Mem, m = Mem.mk M209.blks M209.next M209.hide [] := ⟨_, rfl⟩
  have X233 : Ext (Mem.mk M.blks M.next M.hide []) R231 := by rw [eR232]; exact Ext.aside (X230)
  have lg234 : R231.log = [] := by rw [eR232]
  have nxR231 : R231.next = M209.next := by rw [eR232]
  have hM235 : MemOk R231 := by rw [eR232]; exact MemOk.log hM214
  have ltb12M209 : b12 < M209.next := by have h := Mem.lt_of_get g217; exact h
  have g236 : R231.get b12 = some ⟨[(i64 0), (i64 1), (i64 0), (i64 0), (i64 1), (i64 2), (i64 0), (i64 0)], 37, 4, 0, true⟩ := by rw [eR232]; exact g217
  have ltb21M209 : b21 < M209.next := by have h := Mem.lt_of_get g218; exact h
  have g237 : R231.get b21 = some ⟨[(i64 0), (i64 1), (i64 0), (i64 0), (i64 1), (i64 2), (i64 1), (i64 0)], 37, 4, 0, true⟩ := by rw [eR232]; exact g218
  have ltb31M209 : b31 < M209.next := by have h := Mem.lt_of_get g219; exact h
  have g238 : R231.get b31 = some ⟨[(i64 0), (i64 0), (i64 3), (i64 0)], 37, 4, 0, true⟩ := by rw [eR232]; exact g219
  have ltb42M209 : b42 < M209.next := by have h := Mem.lt_of_get g220; exact h
  have g239 : R231.get b42 = some ⟨[(i64 3), (i64 2), (i64 0), (i64 0), (i64 3), (i64 1), (i64 0), (i64 0), (i64 3), (i64 0), (i64 0), (i64 0), (i64 0), (i64 0), (i64 0), (i64 0)], 37, 4, 0, true⟩ := by rw [eR232]; exact g220
  have ltb54M209 : b54 < M209.next := by have h := Mem.lt_of_get g221; exact h
  have g240 : R231.get b54 = some ⟨[(i64 0), (i64 0), (i64 0), (i64 0), (i64 0), (i64 0), (i64 4), (i64 0)], 37, 4, 0, true⟩ := by rw [eR232]; exact g221
  have ltb67M209 : b67 < M209.next := by have h := Mem.lt_of_get g222; exact h
  have g241 : R231.get b67 = some ⟨[(i64 3), sln, (i64 3), (sli b12 0 2 3), (i64 3), (sli b21 0 2 3), (i64 2), (sli b31 0 1 2), (i64 4), (sli b42 0 4 5), (i64 2), (sli b54 0 2 3)], 26, 2, 0, true⟩ := by rw [eR232]; exact g222
  have ltb81M209 : b81 < M209.next := by have h := Mem.lt_of_get g223; exact h
  have g242 : R231.get b81 = some ⟨[(i64 0), (i64 1), (i64 2)], 3, 1, 0, true⟩ := by rw [eR232]; exact g223
  have ltb96M209 : b96 < M209.next := by have h := Mem.lt_of_get g224; exact h
  have g243 : R231.get b96 = some ⟨[(i64 0), (i64 2), (i64 1)], 3, 1, 0, true⟩ := by rw [eR232]; exact g224
  have ltb112M209 : b112 < M209.next := by have h := Mem.lt_of_get g225; exact h
  have g244 : R231.get b112 = some ⟨[(i64 0), (i64 2)], 3, 1, 0, true⟩ := by rw [eR232]; exact g225
  have ltb129M209 : b129 < M209.next := by have h := Mem.lt_of_get g226; exact h
  have g245 : R231.get b129 = some ⟨[(i64 1), (i64 0)], 3, 1, 0, true⟩ := by rw [eR232]; exact g226
  have ltb147M209 : b147 < M209.next := by have h := Mem.lt_of_get g227; exact h
  have g246 : R231.get b147 = some ⟨[(i64 1), (i64 2), (i64 0), (i64 3)], 3, 1, 0, true⟩ := by rw [eR232]; exact g227
  have ltb166M209 : b166 < M209.next := by have h := Mem.lt_of_get g228; exact h
  have g247 : R231.get b166 = some ⟨[(i64 1)], 3, 1, 0, true⟩ := by rw [eR232]; exact g228
  have ltb186M209 : b186 < M209.next := by have h := Mem.lt_of_get g229; exact h
  have g248 : R231.get b186 = some ⟨[(sli b81 0 3 4), (sli b96 0 3 4), (sli b112 0 2 3), (sli b129 0 2 3), (sli b147 0 4 5), (sli b166 0 1 2)], 22, 1, 0, true⟩ := by rw [eR232]; exact g229
  have ltb12M256 := Mem.lt_of_get g236
  have ltb21M256 := Mem.lt_of_get g237
  have ltb31M256 := Mem.lt_of_get g238
  have ltb42M256 := Mem.lt_of_get g239
  have ltb54M256 := Mem.lt_of_get g240
  have ltb67M256 := Mem.lt_of_get g241
  have ltb81M256 := Mem.lt_of_get g242
  have ltb96M256 := Mem.lt_of_get g243
  have ltb112M256 := Mem.lt_of_get g244
  have ltb129M256 := Mem.lt_of_get g245
  have ltb147M256 := Mem.lt_of_get g246
  have ltb166M256 := Mem.lt_of_get g247
  have ltb186M256 := Mem.lt_of_get g248
  obtain ⟨w254, N255, M256, p257, l258, e259, E260, hM261, F262⟩ := call_fc (x := (3, kn2)) hM235 con13 (⟨⟨_, rfl, _, rfl, GRowsAt.of_blk' g237 rfl rfl (fun r hr => by simp [kn2] at hr; rcases hr with rfl | rfl <;> rfl) (by decide)⟩, kc2⟩)
  have nx263 := E260.next
  have g264 := E260.old g236
  have g265 := E260.old g237
  have g266 := E260.old g238
  have g267 := E260.old g239
  have g268 := E260.old g240
  have g269 := E260.old g241
  have g270 := E260.old g242
  have g271 := E260.old g243
  have g272 := E260.old g244
  have g273 := E260.old g245
  have g274 := E260.old g246
  have g275 := E260.old g247
  have g276 := E260.old g248
  have G253 : pInts (orderL 3 kn2) w254 (hidx [(0, R231.next)] M256) := hx_of F262
  rw [ko2] at G253
  obtain ⟨a249, c250, ew254⟩ := GRowsAt.form G253
  subst ew254
  obtain ⟨b251, o252, ea249, _⟩ := form_pos G253 (by decide)
  subst ea249
  have lg277 : M256.log = [] := by rw [← e259]; exact lg234
  have X278 := X233.trans E260
  have ltb12M286 := Mem.lt_of_get g264
  have ltb21M286 := Mem.lt_of_get g265
  have ltb31M286 := Mem.lt_of_get g266
  have ltb42M286 := Mem.lt_of_get g267
  have ltb54M286 := Mem.lt_of_get g268
  have ltb67M286 := Mem.lt_of_get g269
  have ltb81M286 := Mem.lt_of_get g270
  have ltb96M286 := Mem.lt_of_get g271
  have ltb112M286 := Mem.lt_of_get g272
  have ltb129M286 := Mem.lt_of_get g273
  have ltb147M286 := Mem.lt_of_get g274
  have ltb166M286 := Mem.lt_of_get g275
  have ltb186M286 := Mem.lt_of_get g276
  obtain ⟨w284, N285, M286, p287, l288, e289, E290, hM291, F292⟩ := call_fc (x := (3, kn2)) hM261 con10 (⟨⟨_, rfl, _, rfl, GRowsAt.of_blk' g265 rfl rfl (fun r hr => by simp [kn2] at hr; rcases hr with rfl | rfl <;> rfl) (by decide)⟩, kc2⟩)
  have nx293 := E290.next
  have F294 := hx_ext (R := pInts) G253 E290
  have g295 := E290.old g264
  have g296 := E290.old g265
  have g297 := E290.old g266
  have g298 := E290.old g267
  have g299 := E290.old g268
  have g300 := E290.old g269
  have g301 := E290.old g270
  have g302 := E290.old g271
  have g303 := E290.old g272
  have g304 := E290.old g273
  have g305 := E290.old g274
  have g306 := E290.old g275
  have g307 := E290.old g276
  have G283 : pBools (linksL (adjM 3 kn2) 3) w284 (hidx [(0, M256.next)] M286) := hx_of F292
  rw [kl2] at G283
  obtain ⟨a279, c280, ew284⟩ := GRowsAt.form G283
  subst ew284
  obtain ⟨b281, o282, ea279, _⟩ := form_pos G283 (by decide)
  subst ea279
  have lg308 : M286.log = [] := by rw [← e289]; exact lg277
  have X309 := X278.trans E290
  obtain ⟨M310, ef311⟩ : ∃ m : Mem, m = (Mem.mk M286.blks M286.next M286.hide (M286.log ++ M209.log)) := ⟨_, rfl⟩
  have X312 : Ext M M310 := by rw [ef311]; exact Ext.join (X230) (X309)
  have hM313 : MemOk M310 := by rw [ef311]; exact hM291
  have g314 : M310.get b12 = some ⟨[(i64 0), (i64 1), (i64 0), (i64 0), (i64 1), (i64 2), (i64 0), (i64 0)], 37, 4, 0, true⟩ := by rw [ef311]; exact g295
  have g315 : M310.get b21 = some ⟨[(i64 0), (i64 1), (i64 0), (i64 0), (i64 1), (i64 2), (i64 1), (i64 0)], 37, 4, 0, true⟩ := by rw [ef311]; exact g296
  have g316 : M310.get b31 = some ⟨[(i64 0), (i64 0), (i64 3), (i64 0)], 37, 4, 0, true⟩ := by rw [ef311]; exact g297
  have g317 : M310.get b42 = some ⟨[(i64 3), (i64 2), (i64 0), (i64 0), (i64 3), (i64 1), (i64 0), (i64 0), (i64 3), (i64 0), (i64 0), (i64 0), (i64 0), (i64 0), (i64 0), (i64 0)], 37, 4, 0, true⟩ := by rw [ef311]; exact g298
  have g318 : M310.get b54 = some ⟨[(i64 0), (i64 0), (i64 0), (i64 0), (i64 0), (i64 0), (i64 4), (i64 0)], 37, 4, 0, true⟩ := by rw [ef311]; exact g299
  have g319 : M310.get b67 = some ⟨[(i64 3), sln, (i64 3), (sli b12 0 2 3), (i64 3), (sli b21 0 2 3), (i64 2), (sli b31 0 1 2), (i64 4), (sli b42 0 4 5), (i64 2), (sli b54 0 2 3)], 26, 2, 0, true⟩ := by rw [ef311]; exact g300
  have g320 : M310.get b81 = some ⟨[(i64 0), (i64 1), (i64 2)], 3, 1, 0, true⟩ := by rw [ef311]; exact g301
  have g321 : M310.get b96 = some ⟨[(i64 0), (i64 2), (i64 1)], 3, 1, 0, true⟩ := by rw [ef311]; exact g302
  have g322 : M310.get b112 = some ⟨[(i64 0), (i64 2)], 3, 1, 0, true⟩ := by rw [ef311]; exact g303
  have g323 : M310.get b129 = some ⟨[(i64 1), (i64 0)], 3, 1, 0, true⟩ := by rw [ef311]; exact g304
  have g324 : M310.get b147 = some ⟨[(i64 1), (i64 2), (i64 0), (i64 3)], 3, 1, 0, true⟩ := by rw [ef311]; exact g305
  have g325 : M310.get b166 = some ⟨[(i64 1)], 3, 1, 0, true⟩ := by rw [ef311]; exact g306
  have g326 : M310.get b186 = some ⟨[(sli b81 0 3 4), (sli b96 0 3 4), (sli b112 0 2 3), (sli b129 0 2 3), (sli b147 0 4 5), (sli b166 0 1 2)], 22, 1, 0, true⟩ := by rw [ef311]; exact g307
  have F327 := hx_still (R := pInts) (M' := M310) F294 (fun id b h => by rw [ef311]; exact h)
  have F328 := hx_still (R := pBools) (M' := M310) G283 (fun id b h => by rw [ef311]; exact h)
  have ltb12M331 := Mem.lt_of_get g314
  have ltb21M331 := Mem.lt_of_get g315
  have ltb31M331 := Mem.lt_of_get g316
  have ltb42M331 := Mem.lt_of_get g317
  have ltb54M331 := Mem.lt_of_get g318
  have ltb67M331 := Mem.lt_of_get g319
  have ltb81M331 := Mem.lt_of_get g320
  have ltb96M331 := Mem.lt_of_get g321
  have ltb112M331 := Mem.lt_of_get g322
  have ltb129M331 := Mem.lt_of_get g323
  have ltb147M331 := Mem.lt_of_get g324
  have ltb166M331 := Mem.lt_of_get g325
  have ltb186M331 := Mem.lt_of_get g326
  obtain ⟨w329, N330, M331, p332, l333, e334, E335, hM336, F337⟩ := call_fc (x := (([0, 2] : List Int), ([0, 2] : List Int))) hM313 con12 (⟨_, _, rfl, hx_out (R := pInts) F327, GRowsAt.of_blk' g322 rfl rfl (fun _ _ => rfl) (by decide)⟩)
  have nx338 := E335.next
  have g346 := E335.old g319
  have g353 := E335.old g326
  have ew329 : w329 = (.bool true) := by have h0 : w329 = .bool (decide (([0, 2] : List Int) = [0, 2])) := F337; rw [h0]; rfl
  subst ew329
  have X354 := X312.trans E335
  have hraw := w6_2_raw x M  M3 b12 M13 b21 M22 b31 M32 b42 M43 b54 M55 b67 M68 b81 M82 b96 M97 b112 M113 b129 M130 b147 M148 b166 M167 b186 M187 M209 b251 o252 c250 M256 b281 o282 c280 M286 M331
  have rw0 : Mem.mk M209.blks M209.next M209.hide [] = R231 := eR232.symm
  have rw1 : Mem.mk M256.blks M256.next M209.hide M256.log = M256 := by rw [(show M209.hide = M256.hide from ((X230).hide.trans (X278).hide.symm))]
  have rw2 : Mem.mk M256.blks M256.next (hides 224 [⟨4, 1, M209.next, M256.next⟩, ⟨3, 1, M209.next, M209.next⟩] ++ M209.hide) M256.log = hidx (hides 224 [⟨4, 1, M209.next, M256.next⟩, ⟨3, 1, M209.next, M209.next⟩]) M256 := by rw [(show M209.hide = M256.hide from ((X230).hide.trans (X278).hide.symm))]; rfl
  have rw3 : Mem.mk M286.blks M286.next M209.hide M286.log = M286 := by rw [(show M209.hide = M286.hide from ((X230).hide.trans (X309).hide.symm))]
  have rw4 : (Mem.mk M286.blks M286.next M209.hide (M286.log ++ M209.log)) = (Mem.mk M286.blks M286.next M286.hide (M286.log ++ M209.log)) := by rw [(show M209.hide = M286.hide from ((X230).hide.trans (X309).hide.symm))]
  have rw5 : (Mem.mk M286.blks M286.next M286.hide (M286.log ++ M209.log)) = M310 := ef311.symm
  try rw [rw0] at hraw
  try rw [rw1] at hraw
  try rw [rw2] at hraw
  try rw [rw3] at hraw
  try rw [rw4] at hraw
  try rw [rw5] at hraw
  exact ⟨(.bool true), M331, Ev.told_tmp noNumP mixedP Try.func6 q6_ok (by kernel_rfl) rK6 (fun B => specsB_ok (k := []) (hS6_8_10_12_13_18 B) (fun p hp => by cases hp)) (fun _ _ => rfl) hraw (hk (q_call rfl p4 l5 e6) (hk (q_eq (by rw [← eb14, ← em15]; kernel_rfl) Nat.one_ne_zero) (hk (q_eq (by rw [← eb23, ← em24]; kernel_rfl) Nat.one_ne_zero) (hk (q_eq (by rw [← eb33, ← em34]; kernel_rfl) Nat.one_ne_zero) (hk (q_eq (by rw [← eb44, ← em45]; kernel_rfl) Nat.one_ne_zero) (hk (q_eq (by rw [← eb56, ← em57]; kernel_rfl) Nat.one_ne_zero) (hk (q_eq (by rw [← eb69, ← em70]; kernel_rfl) Nat.one_ne_zero) (hk (q_eq (by rw [← eb83, ← em84]; kernel_rfl) Nat.one_ne_zero) (hk (q_eq (by rw [← eb98, ← em99]; kernel_rfl) Nat.one_ne_zero) (hk (q_eq (by rw [← eb114, ← em115]; kernel_rfl) Nat.one_ne_zero) (hk (q_eq (by rw [← eb131, ← em132]; kernel_rfl) Nat.one_ne_zero) (hk (q_eq (by rw [← eb149, ← em150]; kernel_rfl) Nat.one_ne_zero) (hk (q_eq (by rw [← eb168, ← em169]; kernel_rfl) Nat.one_ne_zero) (hk (q_eq (by rw [← eb188, ← em189]; kernel_rfl) Nat.one_ne_zero) (hk (q_call rfl p210 l211 e212) (hk (lA ⟨dA26, dS26⟩ g241 rfl) (hk (q_call rfl p257 l258 e259) (hk (lA ⟨dA26, dS26⟩ (hidx_get.2 ⟨hides_low (by simp; omega), g269⟩) rfl) (hk (q_lt ltb67M209) (hk (q_call rfl p287 l288 e289) (hk (q_apart (by rw [lg308]; simp <;> omega)) (hk (q_ld (by have := ld_one (P := Try.prog) (ty := 4) (i := 0) (hx_out (R := pBools) F328) rfl rfl dC4; simpa using this)) (hk (q_ld (by have := ld_one (P := Try.prog) (ty := 4) (i := 1) (hx_out (R := pBools) F328) rfl rfl dC4; simpa using this)) (hk (q_ld (by have := ld_one (P := Try.prog) (ty := 4) (i := 2) (hx_out (R := pBools) F328) rfl rfl dC4; simpa using this)) (hk (lC dC22 g326 rfl) (hk (q_call rfl p332 l333 e334) (hk (lC dC3 g346 rfl) (hk (lC dC22 g353 rfl) (hk (lC dC3 g346 rfl) hn))))))))))))))))))))))))))))), X354, hM336, rfl⟩
theorem w6_3_raw (x : Int) (M : Mem) (M3 : Mem) (b12 : Nat) (M13 : Mem) (b21 : Nat) (M22 : Mem) (b31 : Nat) (M32 : Mem) (b42 : Nat) (M43 : Mem) (b54 : Nat) (M55 : Mem) (b67 : Nat) (M68 : Mem) (b81 : Nat) (M82 : Mem) (b96 : Nat) (M97 : Mem) (b112 : Nat) (M113 : Mem) (b129 : Nat) (M130 : Mem) (b147 : Nat) (M148 : Mem) (b166 : Nat) (M167 : Mem) (b186 : Nat) (M187 : Mem) (M209 : Mem) (b251 : Nat) (o252 : Nat) (c250 : Nat) (M256 : Mem) (b281 : Nat) (o282 : Nat) (c280 : Nat) (M286 : Mem) (M331 : Mem) : oT Try.prog [] 100 Try.f6 q6 [(i64 x)] M [ttV 3 (.bool true) M3, ttV 14 (sli b12 0 2 3) M13, ttV 22 (sli b21 0 2 3) M22, ttV 28 (sli b31 0 1 2) M32, ttV 40 (sli b42 0 4 5) M43, ttV 48 (sli b54 0 2 3) M55, ttV 52 (sli b67 0 6 7) M68, ttV 56 (sli b81 0 3 4) M82, ttV 58 (sli b96 0 3 4) M97, ttV 60 (sli b112 0 2 3) M113, ttV 62 (sli b129 0 2 3) M130, ttV 64 (sli b147 0 4 5) M148, ttV 66 (sli b166 0 1 2) M167, ttV 68 (sli b186 0 6 7) M187, ttV 78 (i64 3) M209, ttL 88 (.agg ⟨[(i64 2), (sli b31 0 1 2)]⟩), ttV 90 (sli b251 o252 2 c250) M256, ttL 98 (.agg ⟨[(i64 2), (sli b31 0 1 2)]⟩), ttV 100 (sli b281 o282 2 c280) M286, ttL 125 (.bool false), ttL 149 (.bool false), ttL 175 (sli b129 0 2 3), ttV 177 (.bool true) M331, ttL 191 (i64 2), ttL 199 (sli b129 0 2 3), ttL 223 (i64 2)] 2 = some (.ret, some (.bool true), M331, [qC 8 [] M (.bool true) M3, .eq (abuildSlice Try.prog 24 2 [(0, (.agg ⟨[(i64 0), (i64 1), (i64 0), (i64 0)]⟩)), (1, (.agg ⟨[(i64 1), (i64 2), (i64 0), (i64 0)]⟩))] M3) (1, .val (sli b12 0 2 3), M13), .eq (abuildSlice Try.prog 24 2 [(0, (.agg ⟨[(i64 0), (i64 1), (i64 0), (i64 0)]⟩)), (1, (.agg ⟨[(i64 1), (i64 2), (i64 1), (i64 0)]⟩))] M13) (1, .val (sli b21 0 2 3), M22), .eq (abuildSlice Try.prog 24 1 [(0, (.agg ⟨[(i64 0), (i64 0), (i64 3), (i64 0)]⟩))] M22) (1, .val (sli b31 0 1 2), M32), .eq (abuildSlice Try.prog 24 4 [(0, (.agg ⟨[(i64 3), (i64 2), (i64 0), (i64 0)]⟩)), (1, (.agg ⟨[(i64 3), (i64 1), (i64 0), (i64 0)]⟩)), (2, (.agg ⟨[(i64 3), (i64 0), (i64 0), (i64 0)]⟩)), (3, (.agg ⟨[(i64 0), (i64 0), (i64 0), (i64 0)]⟩))] M32) (1, .val (sli b42 0 4 5), M43), .eq (abuildSlice Try.prog 24 2 [(0, (.agg ⟨[(i64 0), (i64 0), (i64 0), (i64 0)]⟩)), (1, (.agg ⟨[(i64 0), (i64 0), (i64 4), (i64 0)]⟩))] M43) (1, .val (sli b54 0 2 3), M55), .eq (abuildSlice Try.prog 40 6 [(0, (.agg ⟨[(i64 3), sln]⟩)), (1, (.agg ⟨[(i64 3), (sli b12 0 2 3)]⟩)), (2, (.agg ⟨[(i64 3), (sli b21 0 2 3)]⟩)), (3, (.agg ⟨[(i64 2), (sli b31 0 1 2)]⟩)), (4, (.agg ⟨[(i64 4), (sli b42 0 4 5)]⟩)), (5, (.agg ⟨[(i64 2), (sli b54 0 2 3)]⟩))] M55) (1, .val (sli b67 0 6 7), M68), .eq (abuildSlice Try.prog 22 3 [(0, (i64 0)), (1, (i64 1)), (2, (i64 2))] M68) (1, .val (sli b81 0 3 4), M82), .eq (abuildSlice Try.prog 22 3 [(0, (i64 0)), (1, (i64 2)), (2, (i64 1))] M82) (1, .val (sli b96 0 3 4), M97), .eq (abuildSlice Try.prog 22 2 [(0, (i64 0)), (1, (i64 2))] M97) (1, .val (sli b112 0 2 3), M113), .eq (abuildSlice Try.prog 22 2 [(0, (i64 1)), (1, (i64 0))] M113) (1, .val (sli b129 0 2 3), M130), .eq (abuildSlice Try.prog 22 4 [(0, (i64 1)), (1, (i64 2)), (2, (i64 0)), (3, (i64 3))] M130) (1, .val (sli b147 0 4 5), M148), .eq (abuildSlice Try.prog 22 1 [(0, (i64 1))] M148) (1, .val (sli b166 0 1 2), M167), .eq (abuildSlice Try.prog 41 6 [(0, (sli b81 0 3 4)), (1, (sli b96 0 3 4)), (2, (sli b112 0 2 3)), (3, (sli b129 0 2 3)), (4, (sli b147 0 4 5)), (5, (sli b166 0 1 2))] M167) (1, .val (sli b186 0 6 7), M187), qC 18 [(i64 x), (i64 6)] M187 (i64 3) M209, qL 26 b67 6 (Mem.mk M209.blks M209.next M209.hide []) (.agg ⟨[(i64 2), (sli b31 0 1 2)]⟩), qC 13 [(.agg ⟨[(i64 2), (sli b31 0 1 2)]⟩)] (Mem.mk M209.blks M209.next M209.hide []) (sli b251 o252 2 c250) M256, qL 26 b67 6 (Mem.mk M256.blks M256.next (hides 224 [⟨4, 1, M209.next, M256.next⟩, ⟨3, 1, M209.next, M209.next⟩] ++ M209.hide) M256.log) (.agg ⟨[(i64 2), (sli b31 0 1 2)]⟩), qT (Nat.blt b67 M209.next), qC 10 [(.agg ⟨[(i64 2), (sli b31 0 1 2)]⟩)] (Mem.mk M256.blks M256.next M209.hide M256.log) (sli b281 o282 2 c280) M286, qT (apartN [b67] M286.log), qL 4 b281 (o282 + 0) (Mem.mk M286.blks M286.next M209.hide (M286.log ++ M209.log)) (.bool false), qL 4 b281 (o282 + 1) (Mem.mk M286.blks M286.next M209.hide (M286.log ++ M209.log)) (.bool false), qL 22 b186 3 (Mem.mk M286.blks M286.next M209.hide (M286.log ++ M209.log)) (sli b129 0 2 3), qC 12 [(sli b251 o252 2 c250), (sli b129 0 2 3)] (Mem.mk M286.blks M286.next M209.hide (M286.log ++ M209.log)) (.bool true) M331, qL 3 b67 6 M331 (i64 2), qL 22 b186 3 M331 (sli b129 0 2 3), qL 3 b67 6 M331 (i64 2)]) := by kernel_rfl
theorem w6_3 (x : Int) {M : Mem} (hM : MemOk M) (hkk : modI x 6 = 3) : ∃ v_ M', Ev Try.prog [] 6 [(i64 x)] M v_ M' ∧ Ext M M' ∧ MemOk M' ∧ v_ = .bool true := by
  obtain ⟨w1, N2, M3, p4, l5, e6, E7, hM8, F9⟩ := call_fc (x := ()) hM con8 (rfl)
  have nx10 := E7.next
  have ew1 : w1 = (.bool true) := F9
  subst ew1
  have X11 := (Ext.refl M).trans E7
  obtain ⟨b12, M13, eb14, em15, g16, E17, hM18⟩ := new_t hM8 ⟨[(i64 0), (i64 1), (i64 0), (i64 0), (i64 1), (i64 2), (i64 0), (i64 0)], 37, 4, 0, true⟩
  have nb12 : M.next ≤ b12 := by rw [← eb14]; exact X11.next
  have nx19 := E17.next
  have X20 := X11.trans E17
  obtain ⟨b21, M22, eb23, em24, g25, E26, hM27⟩ := new_t hM18 ⟨[(i64 0), (i64 1), (i64 0), (i64 0), (i64 1), (i64 2), (i64 1), (i64 0)], 37, 4, 0, true⟩
  have nb21 : M.next ≤ b21 := by rw [← eb23]; exact X20.next
  have db12b21 : b12 ≠ b21 := by have := Mem.lt_of_get g16; omega
  have g28 := E26.old g16
  have nx29 := E26.next
  have X30 := X20.trans E26
  obtain ⟨b31, M32, eb33, em34, g35, E36, hM37⟩ := new_t hM27 ⟨[(i64 0), (i64 0), (i64 3), (i64 0)], 37, 4, 0, true⟩
  have nb31 : M.next ≤ b31 := by rw [← eb33]; exact X30.next
  have db12b31 : b12 ≠ b31 := by have := Mem.lt_of_get g28; omega
  have db21b31 : b21 ≠ b31 := by have := Mem.lt_of_get g25; omega
  have g38 := E36.old g28
  have g39 := E36.old g25
  have nx40 := E36.next
  have X41 := X30.trans E36
  obtain ⟨b42, M43, eb44, em45, g46, E47, hM48⟩ := new_t hM37 ⟨[(i64 3), (i64 2), (i64 0), (i64 0), (i64 3), (i64 1), (i64 0), (i64 0), (i64 3), (i64 0), (i64 0), (i64 0), (i64 0), (i64 0), (i64 0), (i64 0)], 37, 4, 0, true⟩
  have nb42 : M.next ≤ b42 := by rw [← eb44]; exact X41.next
  have db12b42 : b12 ≠ b42 := by have := Mem.lt_of_get g38; omega
  have db21b42 : b21 ≠ b42 := by have := Mem.lt_of_get g39; omega
  have db31b42 : b31 ≠ b42 := by have := Mem.lt_of_get g35; omega
  have g49 := E47.old g38
  have g50 := E47.old g39
  have g51 := E47.old g35
  have nx52 := E47.next
  have X53 := X41.trans E47
  obtain ⟨b54, M55, eb56, em57, g58, E59, hM60⟩ := new_t hM48 ⟨[(i64 0), (i64 0), (i64 0), (i64 0), (i64 0), (i64 0), (i64 4), (i64 0)], 37, 4, 0, true⟩
  have nb54 : M.next ≤ b54 := by rw [← eb56]; exact X53.next
  have db12b54 : b12 ≠ b54 := by have := Mem.lt_of_get g49; omega
  have db21b54 : b21 ≠ b54 := by have := Mem.lt_of_get g50; omega
  have db31b54 : b31 ≠ b54 := by have := Mem.lt_of_get g51; omega
  have db42b54 : b42 ≠ b54 := by have := Mem.lt_of_get g46; omega
  have g61 := E59.old g49
  have g62 := E59.old g50
  have g63 := E59.old g51
  have g64 := E59.old g46
  have nx65 := E59.next
  have X66 := X53.trans E59
  obtain ⟨b67, M68, eb69, em70, g71, E72, hM73⟩ := new_t hM60 ⟨[(i64 3), sln, (i64 3), (sli b12 0 2 3), (i64 3), (sli b21 0 2 3), (i64 2), (sli b31 0 1 2), (i64 4), (sli b42 0 4 5), (i64 2), (sli b54 0 2 3)], 26, 2, 0, true⟩
  have nb67 : M.next ≤ b67 := by rw [← eb69]; exact X66.next
  have db12b67 : b12 ≠ b67 := by have := Mem.lt_of_get g61; omega
  have db21b67 : b21 ≠ b67 := by have := Mem.lt_of_get g62; omega
  have db31b67 : b31 ≠ b67 := by have := Mem.lt_of_get g63; omega
  have db42b67 : b42 ≠ b67 := by have := Mem.lt_of_get g64; omega
  have db54b67 : b54 ≠ b67 := by have := Mem.lt_of_get g58; omega
  have g74 := E72.old g61
  have g75 := E72.old g62
  have g76 := E72.old g63
  have g77 := E72.old g64
  have g78 := E72.old g58
  have nx79 := E72.next
  have X80 := X66.trans E72
  obtain ⟨b81, M82, eb83, em84, g85, E86, hM87⟩ := new_t hM73 ⟨[(i64 0), (i64 1), (i64 2)], 3, 1, 0, true⟩
  have nb81 : M.next ≤ b81 := by rw [← eb83]; exact X80.next
  have db12b81 : b12 ≠ b81 := by have := Mem.lt_of_get g74; omega
  have db21b81 : b21 ≠ b81 := by have := Mem.lt_of_get g75; omega
  have db31b81 : b31 ≠ b81 := by have := Mem.lt_of_get g76; omega
  have db42b81 : b42 ≠ b81 := by have := Mem.lt_of_get g77; omega
  have db54b81 : b54 ≠ b81 := by have := Mem.lt_of_get g78; omega
  have db67b81 : b67 ≠ b81 := by have := Mem.lt_of_get g71; omega
  have g88 := E86.old g74
  have g89 := E86.old g75
  have g90 := E86.old g76
  have g91 := E86.old g77
  have g92 := E86.old g78
  have g93 := E86.old g71
  have nx94 := E86.next
  have X95 := X80.trans E86
  obtain ⟨b96, M97, eb98, em99, g100, E101, hM102⟩ := new_t hM87 ⟨[(i64 0), (i64 2), (i64 1)], 3, 1, 0, true⟩
  have nb96 : M.next ≤ b96 := by rw [← eb98]; exact X95.next
  have db12b96 : b12 ≠ b96 := by have := Mem.lt_of_get g88; omega
  have db21b96 : b21 ≠ b96 := by have := Mem.lt_of_get g89; omega
  have db31b96 : b31 ≠ b96 := by have := Mem.lt_of_get g90; omega
  have db42b96 : b42 ≠ b96 := by have := Mem.lt_of_get g91; omega
  have db54b96 : b54 ≠ b96 := by have := Mem.lt_of_get g92; omega
  have db67b96 : b67 ≠ b96 := by have := Mem.lt_of_get g93; omega
  have db81b96 : b81 ≠ b96 := by have := Mem.lt_of_get g85; omega
  have g103 := E101.old g88
  have g104 := E101.old g89
  have g105 := E101.old g90
  have g106 := E101.old g91
  have g107 := E101.old g92
  have g108 := E101.old g93
  have g109 := E101.old g85
  have nx110 := E101.next
  have X111 := X95.trans E101
  obtain ⟨b112, M113, eb114, em115, g116, E117, hM118⟩ := new_t hM102 ⟨[(i64 0), (i64 2)], 3, 1, 0, true⟩
  have nb112 : M.next ≤ b112 := by rw [← eb114]; exact X111.next
  have db12b112 : b12 ≠ b112 := by have := Mem.lt_of_get g103; omega
  have db21b112 : b21 ≠ b112 := by have := Mem.lt_of_get g104; omega
  have db31b112 : b31 ≠ b112 := by have := Mem.lt_of_get g105; omega
  have db42b112 : b42 ≠ b112 := by have := Mem.lt_of_get g106; omega
  have db54b112 : b54 ≠ b112 := by have := Mem.lt_of_get g107; omega
  have db67b112 : b67 ≠ b112 := by have := Mem.lt_of_get g108; omega
  have db81b112 : b81 ≠ b112 := by have := Mem.lt_of_get g109; omega
  have db96b112 : b96 ≠ b112 := by have := Mem.lt_of_get g100; omega
  have g119 := E117.old g103
  have g120 := E117.old g104
  have g121 := E117.old g105
  have g122 := E117.old g106
  have g123 := E117.old g107
  have g124 := E117.old g108
  have g125 := E117.old g109
  have g126 := E117.old g100
  have nx127 := E117.next
  have X128 := X111.trans E117
  obtain ⟨b129, M130, eb131, em132, g133, E134, hM135⟩ := new_t hM118 ⟨[(i64 1), (i64 0)], 3, 1, 0, true⟩
  have nb129 : M.next ≤ b129 := by rw [← eb131]; exact X128.next
  have db12b129 : b12 ≠ b129 := by have := Mem.lt_of_get g119; omega
  have db21b129 : b21 ≠ b129 := by have := Mem.lt_of_get g120; omega
  have db31b129 : b31 ≠ b129 := by have := Mem.lt_of_get g121; omega
  have db42b129 : b42 ≠ b129 := by have := Mem.lt_of_get g122; omega
  have db54b129 : b54 ≠ b129 := by have := Mem.lt_of_get g123; omega
  have db67b129 : b67 ≠ b129 := by have := Mem.lt_of_get g124; omega
  have db81b129 : b81 ≠ b129 := by have := Mem.lt_of_get g125; omega
  have db96b129 : b96 ≠ b129 := by have := Mem.lt_of_get g126; omega
  have db112b129 : b112 ≠ b129 := by have := Mem.lt_of_get g116; omega
  have g136 := E134.old g119
  have g137 := E134.old g120
  have g138 := E134.old g121
  have g139 := E134.old g122
  have g140 := E134.old g123
  have g141 := E134.old g124
  have g142 := E134.old g125
  have g143 := E134.old g126
  have g144 := E134.old g116
  have nx145 := E134.next
  have X146 := X128.trans E134
  obtain ⟨b147, M148, eb149, em150, g151, E152, hM153⟩ := new_t hM135 ⟨[(i64 1), (i64 2), (i64 0), (i64 3)], 3, 1, 0, true⟩
  have nb147 : M.next ≤ b147 := by rw [← eb149]; exact X146.next
  have db12b147 : b12 ≠ b147 := by have := Mem.lt_of_get g136; omega
  have db21b147 : b21 ≠ b147 := by have := Mem.lt_of_get g137; omega
  have db31b147 : b31 ≠ b147 := by have := Mem.lt_of_get g138; omega
  have db42b147 : b42 ≠ b147 := by have := Mem.lt_of_get g139; omega
  have db54b147 : b54 ≠ b147 := by have := Mem.lt_of_get g140; omega
  have db67b147 : b67 ≠ b147 := by have := Mem.lt_of_get g141; omega
  have db81b147 : b81 ≠ b147 := by have := Mem.lt_of_get g142; omega
  have db96b147 : b96 ≠ b147 := by have := Mem.lt_of_get g143; omega
  have db112b147 : b112 ≠ b147 := by have := Mem.lt_of_get g144; omega
  have db129b147 : b129 ≠ b147 := by have := Mem.lt_of_get g133; omega
  have g154 := E152.old g136
  have g155 := E152.old g137
  have g156 := E152.old g138
  have g157 := E152.old g139
  have g158 := E152.old g140
  have g159 := E152.old g141
  have g160 := E152.old g142
  have g161 := E152.old g143
  have g162 := E152.old g144
  have g163 := E152.old g133
  have nx164 := E152.next
  have X165 := X146.trans E152
  obtain ⟨b166, M167, eb168, em169, g170, E171, hM172⟩ := new_t hM153 ⟨[(i64 1)], 3, 1, 0, true⟩
  have nb166 : M.next ≤ b166 := by rw [← eb168]; exact X165.next
  have db12b166 : b12 ≠ b166 := by have := Mem.lt_of_get g154; omega
  have db21b166 : b21 ≠ b166 := by have := Mem.lt_of_get g155; omega
  have db31b166 : b31 ≠ b166 := by have := Mem.lt_of_get g156; omega
  have db42b166 : b42 ≠ b166 := by have := Mem.lt_of_get g157; omega
  have db54b166 : b54 ≠ b166 := by have := Mem.lt_of_get g158; omega
  have db67b166 : b67 ≠ b166 := by have := Mem.lt_of_get g159; omega
  have db81b166 : b81 ≠ b166 := by have := Mem.lt_of_get g160; omega
  have db96b166 : b96 ≠ b166 := by have := Mem.lt_of_get g161; omega
  have db112b166 : b112 ≠ b166 := by have := Mem.lt_of_get g162; omega
  have db129b166 : b129 ≠ b166 := by have := Mem.lt_of_get g163; omega
  have db147b166 : b147 ≠ b166 := by have := Mem.lt_of_get g151; omega
  have g173 := E171.old g154
  have g174 := E171.old g155
  have g175 := E171.old g156
  have g176 := E171.old g157
  have g177 := E171.old g158
  have g178 := E171.old g159
  have g179 := E171.old g160
  have g180 := E171.old g161
  have g181 := E171.old g162
  have g182 := E171.old g163
  have g183 := E171.old g151
  have nx184 := E171.next
  have X185 := X165.trans E171
  obtain ⟨b186, M187, eb188, em189, g190, E191, hM192⟩ := new_t hM172 ⟨[(sli b81 0 3 4), (sli b96 0 3 4), (sli b112 0 2 3), (sli b129 0 2 3), (sli b147 0 4 5), (sli b166 0 1 2)], 22, 1, 0, true⟩
  have nb186 : M.next ≤ b186 := by rw [← eb188]; exact X185.next
  have db12b186 : b12 ≠ b186 := by have := Mem.lt_of_get g173; omega
  have db21b186 : b21 ≠ b186 := by have := Mem.lt_of_get g174; omega
  have db31b186 : b31 ≠ b186 := by have := Mem.lt_of_get g175; omega
  have db42b186 : b42 ≠ b186 := by have := Mem.lt_of_get g176; omega
  have db54b186 : b54 ≠ b186 := by have := Mem.lt_of_get g177; omega
  have db67b186 : b67 ≠ b186 := by have := Mem.lt_of_get g178; omega
  have db81b186 : b81 ≠ b186 := by have := Mem.lt_of_get g179; omega
  have db96b186 : b96 ≠ b186 := by have := Mem.lt_of_get g180; omega
  have db112b186 : b112 ≠ b186 := by have := Mem.lt_of_get g181; omega
  have db129b186 : b129 ≠ b186 := by have := Mem.lt_of_get g182; omega
  have db147b186 : b147 ≠ b186 := by have := Mem.lt_of_get g183; omega
  have db166b186 : b166 ≠ b186 := by have := Mem.lt_of_get g170; omega
  have g193 := E191.old g173
  have g194 := E191.old g174
  have g195 := E191.old g175
  have g196 := E191.old g176
  have g197 := E191.old g177
  have g198 := E191.old g178
  have g199 := E191.old g179
  have g200 := E191.old g180
  have g201 := E191.old g181
  have g202 := E191.old g182
  have g203 := E191.old g183
  have g204 := E191.old g170
  have nx205 := E191.next
  have X206 := X185.trans E191
  have ltb12M209 := Mem.lt_of_get g193
  have ltb21M209 := Mem.lt_of_get g194
  have ltb31M209 := Mem.lt_of_get g195
  have ltb42M209 := Mem.lt_of_get g196
  have ltb54M209 := Mem.lt_of_get g197
  have ltb67M209 := Mem.lt_of_get g198
  have ltb81M209 := Mem.lt_of_get g199
  have ltb96M209 := Mem.lt_of_get g200
  have ltb112M209 := Mem.lt_of_get g201
  have ltb129M209 := Mem.lt_of_get g202
  have ltb147M209 := Mem.lt_of_get g203
  have ltb166M209 := Mem.lt_of_get g204
  have ltb186M209 := Mem.lt_of_get g190
  obtain ⟨w207, N208, M209, p210, l211, e212, E213, hM214, F215⟩ := call_fc (x := (x, 6)) hM192 con18 (⟨⟨_, _, rfl, rfl, rfl⟩, rfl⟩)
  have nx216 := E213.next
  have g217 := E213.old g193
  have g218 := E213.old g194
  have g219 := E213.old g195
  have g220 := E213.old g196
  have g221 := E213.old g197
  have g222 := E213.old g198
  have g223 := E213.old g199
  have g224 := E213.old g200
  have g225 := E213.old g201
  have g226 := E213.old g202
  have g227 := E213.old g203
  have g228 := E213.old g204
  have g229 := E213.old g190
  have ew207 : w207 = i64 3 := (show w207 = i64 (modI x 6) from F215).trans (by rw [hkk])
  subst ew207
  have X230 := X206.trans E213
  obtain ⟨R231, eR232⟩ : ∃ m : Mem, m = Mem.mk M209.blks M209.next M209.hide [] := ⟨_, rfl⟩
  have X233 : Ext (Mem.mk M.blks M.next M.hide []) R231 := by rw [eR232]; exact Ext.aside (X230)
  have lg234 : R231.log = [] := by rw [eR232]
  have nxR231 : R231.next = M209.next := by rw [eR232]
  have hM235 : MemOk R231 := by rw [eR232]; exact MemOk.log hM214
  have ltb12M209 : b12 < M209.next := by have h := Mem.lt_of_get g217; exact h
  have g236 : R231.get b12 = some ⟨[(i64 0), (i64 1), (i64 0), (i64 0), (i64 1), (i64 2), (i64 0), (i64 0)], 37, 4, 0, true⟩ := by rw [eR232]; exact g217
  have ltb21M209 : b21 < M209.next := by have h := Mem.lt_of_get g218; exact h
  have g237 : R231.get b21 = some ⟨[(i64 0), (i64 1), (i64 0), (i64 0), (i64 1), (i64 2), (i64 1), (i64 0)], 37, 4, 0, true⟩ := by rw [eR232]; exact g218
  have ltb31M209 : b31 < M209.next := by have h := Mem.lt_of_get g219; exact h
  have g238 : R231.get b31 = some ⟨[(i64 0), (i64 0), (i64 3), (i64 0)], 37, 4, 0, true⟩ := by rw [eR232]; exact g219
  have ltb42M209 : b42 < M209.next := by have h := Mem.lt_of_get g220; exact h
  have g239 : R231.get b42 = some ⟨[(i64 3), (i64 2), (i64 0), (i64 0), (i64 3), (i64 1), (i64 0), (i64 0), (i64 3), (i64 0), (i64 0), (i64 0), (i64 0), (i64 0), (i64 0), (i64 0)], 37, 4, 0, true⟩ := by rw [eR232]; exact g220
  have ltb54M209 : b54 < M209.next := by have h := Mem.lt_of_get g221; exact h
  have g240 : R231.get b54 = some ⟨[(i64 0), (i64 0), (i64 0), (i64 0), (i64 0), (i64 0), (i64 4), (i64 0)], 37, 4, 0, true⟩ := by rw [eR232]; exact g221
  have ltb67M209 : b67 < M209.next := by have h := Mem.lt_of_get g222; exact h
  have g241 : R231.get b67 = some ⟨[(i64 3), sln, (i64 3), (sli b12 0 2 3), (i64 3), (sli b21 0 2 3), (i64 2), (sli b31 0 1 2), (i64 4), (sli b42 0 4 5), (i64 2), (sli b54 0 2 3)], 26, 2, 0, true⟩ := by rw [eR232]; exact g222
  have ltb81M209 : b81 < M209.next := by have h := Mem.lt_of_get g223; exact h
  have g242 : R231.get b81 = some ⟨[(i64 0), (i64 1), (i64 2)], 3, 1, 0, true⟩ := by rw [eR232]; exact g223
  have ltb96M209 : b96 < M209.next := by have h := Mem.lt_of_get g224; exact h
  have g243 : R231.get b96 = some ⟨[(i64 0), (i64 2), (i64 1)], 3, 1, 0, true⟩ := by rw [eR232]; exact g224
  have ltb112M209 : b112 < M209.next := by have h := Mem.lt_of_get g225; exact h
  have g244 : R231.get b112 = some ⟨[(i64 0), (i64 2)], 3, 1, 0, true⟩ := by rw [eR232]; exact g225
  have ltb129M209 : b129 < M209.next := by have h := Mem.lt_of_get g226; exact h
  have g245 : R231.get b129 = some ⟨[(i64 1), (i64 0)], 3, 1, 0, true⟩ := by rw [eR232]; exact g226
  have ltb147M209 : b147 < M209.next := by have h := Mem.lt_of_get g227; exact h
  have g246 : R231.get b147 = some ⟨[(i64 1), (i64 2), (i64 0), (i64 3)], 3, 1, 0, true⟩ := by rw [eR232]; exact g227
  have ltb166M209 : b166 < M209.next := by have h := Mem.lt_of_get g228; exact h
  have g247 : R231.get b166 = some ⟨[(i64 1)], 3, 1, 0, true⟩ := by rw [eR232]; exact g228
  have ltb186M209 : b186 < M209.next := by have h := Mem.lt_of_get g229; exact h
  have g248 : R231.get b186 = some ⟨[(sli b81 0 3 4), (sli b96 0 3 4), (sli b112 0 2 3), (sli b129 0 2 3), (sli b147 0 4 5), (sli b166 0 1 2)], 22, 1, 0, true⟩ := by rw [eR232]; exact g229
  have ltb12M256 := Mem.lt_of_get g236
  have ltb21M256 := Mem.lt_of_get g237
  have ltb31M256 := Mem.lt_of_get g238
  have ltb42M256 := Mem.lt_of_get g239
  have ltb54M256 := Mem.lt_of_get g240
  have ltb67M256 := Mem.lt_of_get g241
  have ltb81M256 := Mem.lt_of_get g242
  have ltb96M256 := Mem.lt_of_get g243
  have ltb112M256 := Mem.lt_of_get g244
  have ltb129M256 := Mem.lt_of_get g245
  have ltb147M256 := Mem.lt_of_get g246
  have ltb166M256 := Mem.lt_of_get g247
  have ltb186M256 := Mem.lt_of_get g248
  obtain ⟨w254, N255, M256, p257, l258, e259, E260, hM261, F262⟩ := call_fc (x := (2, kn3)) hM235 con13 (⟨⟨_, rfl, _, rfl, GRowsAt.of_blk' g238 rfl rfl (fun r hr => by simp [kn3] at hr; rcases hr with rfl <;> rfl) (by decide)⟩, kc3⟩)
  have nx263 := E260.next
  have g264 := E260.old g236
  have g265 := E260.old g237
  have g266 := E260.old g238
  have g267 := E260.old g239
  have g268 := E260.old g240
  have g269 := E260.old g241
  have g270 := E260.old g242
  have g271 := E260.old g243
  have g272 := E260.old g244
  have g273 := E260.old g245
  have g274 := E260.old g246
  have g275 := E260.old g247
  have g276 := E260.old g248
  have G253 : pInts (orderL 2 kn3) w254 (hidx [(0, R231.next)] M256) := hx_of F262
  rw [ko3] at G253
  obtain ⟨a249, c250, ew254⟩ := GRowsAt.form G253
  subst ew254
  obtain ⟨b251, o252, ea249, _⟩ := form_pos G253 (by decide)
  subst ea249
  have lg277 : M256.log = [] := by rw [← e259]; exact lg234
  have X278 := X233.trans E260
  have ltb12M286 := Mem.lt_of_get g264
  have ltb21M286 := Mem.lt_of_get g265
  have ltb31M286 := Mem.lt_of_get g266
  have ltb42M286 := Mem.lt_of_get g267
  have ltb54M286 := Mem.lt_of_get g268
  have ltb67M286 := Mem.lt_of_get g269
  have ltb81M286 := Mem.lt_of_get g270
  have ltb96M286 := Mem.lt_of_get g271
  have ltb112M286 := Mem.lt_of_get g272
  have ltb129M286 := Mem.lt_of_get g273
  have ltb147M286 := Mem.lt_of_get g274
  have ltb166M286 := Mem.lt_of_get g275
  have ltb186M286 := Mem.lt_of_get g276
  obtain ⟨w284, N285, M286, p287, l288, e289, E290, hM291, F292⟩ := call_fc (x := (2, kn3)) hM261 con10 (⟨⟨_, rfl, _, rfl, GRowsAt.of_blk' g266 rfl rfl (fun r hr => by simp [kn3] at hr; rcases hr with rfl <;> rfl) (by decide)⟩, kc3⟩)
  have nx293 := E290.next
  have F294 := hx_ext (R := pInts) G253 E290
  have g295 := E290.old g264
  have g296 := E290.old g265
  have g297 := E290.old g266
  have g298 := E290.old g267
  have g299 := E290.old g268
  have g300 := E290.old g269
  have g301 := E290.old g270
  have g302 := E290.old g271
  have g303 := E290.old g272
  have g304 := E290.old g273
  have g305 := E290.old g274
  have g306 := E290.old g275
  have g307 := E290.old g276
  have G283 : pBools (linksL (adjM 2 kn3) 2) w284 (hidx [(0, M256.next)] M286) := hx_of F292
  rw [kl3] at G283
  obtain ⟨a279, c280, ew284⟩ := GRowsAt.form G283
  subst ew284
  obtain ⟨b281, o282, ea279, _⟩ := form_pos G283 (by decide)
  subst ea279
  have lg308 : M286.log = [] := by rw [← e289]; exact lg277
  have X309 := X278.trans E290
  obtain ⟨M310, ef311⟩ : ∃ m : Mem, m = (Mem.mk M286.blks M286.next M286.hide (M286.log ++ M209.log)) := ⟨_, rfl⟩
  have X312 : Ext M M310 := by rw [ef311]; exact Ext.join (X230) (X309)
  have hM313 : MemOk M310 := by rw [ef311]; exact hM291
  have g314 : M310.get b12 = some ⟨[(i64 0), (i64 1), (i64 0), (i64 0), (i64 1), (i64 2), (i64 0), (i64 0)], 37, 4, 0, true⟩ := by rw [ef311]; exact g295
  have g315 : M310.get b21 = some ⟨[(i64 0), (i64 1), (i64 0), (i64 0), (i64 1), (i64 2), (i64 1), (i64 0)], 37, 4, 0, true⟩ := by rw [ef311]; exact g296
  have g316 : M310.get b31 = some ⟨[(i64 0), (i64 0), (i64 3), (i64 0)], 37, 4, 0, true⟩ := by rw [ef311]; exact g297
  have g317 : M310.get b42 = some ⟨[(i64 3), (i64 2), (i64 0), (i64 0), (i64 3), (i64 1), (i64 0), (i64 0), (i64 3), (i64 0), (i64 0), (i64 0), (i64 0), (i64 0), (i64 0), (i64 0)], 37, 4, 0, true⟩ := by rw [ef311]; exact g298
  have g318 : M310.get b54 = some ⟨[(i64 0), (i64 0), (i64 0), (i64 0), (i64 0), (i64 0), (i64 4), (i64 0)], 37, 4, 0, true⟩ := by rw [ef311]; exact g299
  have g319 : M310.get b67 = some ⟨[(i64 3), sln, (i64 3), (sli b12 0 2 3), (i64 3), (sli b21 0 2 3), (i64 2), (sli b31 0 1 2), (i64 4), (sli b42 0 4 5), (i64 2), (sli b54 0 2 3)], 26, 2, 0, true⟩ := by rw [ef311]; exact g300
  have g320 : M310.get b81 = some ⟨[(i64 0), (i64 1), (i64 2)], 3, 1, 0, true⟩ := by rw [ef311]; exact g301
  have g321 : M310.get b96 = some ⟨[(i64 0), (i64 2), (i64 1)], 3, 1, 0, true⟩ := by rw [ef311]; exact g302
  have g322 : M310.get b112 = some ⟨[(i64 0), (i64 2)], 3, 1, 0, true⟩ := by rw [ef311]; exact g303
  have g323 : M310.get b129 = some ⟨[(i64 1), (i64 0)], 3, 1, 0, true⟩ := by rw [ef311]; exact g304
  have g324 : M310.get b147 = some ⟨[(i64 1), (i64 2), (i64 0), (i64 3)], 3, 1, 0, true⟩ := by rw [ef311]; exact g305
  have g325 : M310.get b166 = some ⟨[(i64 1)], 3, 1, 0, true⟩ := by rw [ef311]; exact g306
  have g326 : M310.get b186 = some ⟨[(sli b81 0 3 4), (sli b96 0 3 4), (sli b112 0 2 3), (sli b129 0 2 3), (sli b147 0 4 5), (sli b166 0 1 2)], 22, 1, 0, true⟩ := by rw [ef311]; exact g307
  have F327 := hx_still (R := pInts) (M' := M310) F294 (fun id b h => by rw [ef311]; exact h)
  have F328 := hx_still (R := pBools) (M' := M310) G283 (fun id b h => by rw [ef311]; exact h)
  have ltb12M331 := Mem.lt_of_get g314
  have ltb21M331 := Mem.lt_of_get g315
  have ltb31M331 := Mem.lt_of_get g316
  have ltb42M331 := Mem.lt_of_get g317
  have ltb54M331 := Mem.lt_of_get g318
  have ltb67M331 := Mem.lt_of_get g319
  have ltb81M331 := Mem.lt_of_get g320
  have ltb96M331 := Mem.lt_of_get g321
  have ltb112M331 := Mem.lt_of_get g322
  have ltb129M331 := Mem.lt_of_get g323
  have ltb147M331 := Mem.lt_of_get g324
  have ltb166M331 := Mem.lt_of_get g325
  have ltb186M331 := Mem.lt_of_get g326
  obtain ⟨w329, N330, M331, p332, l333, e334, E335, hM336, F337⟩ := call_fc (x := (([1, 0] : List Int), ([1, 0] : List Int))) hM313 con12 (⟨_, _, rfl, hx_out (R := pInts) F327, GRowsAt.of_blk' g323 rfl rfl (fun _ _ => rfl) (by decide)⟩)
  have nx338 := E335.next
  have g346 := E335.old g319
  have g353 := E335.old g326
  have ew329 : w329 = (.bool true) := by have h0 : w329 = .bool (decide (([1, 0] : List Int) = [1, 0])) := F337; rw [h0]; rfl
  subst ew329
  have X354 := X312.trans E335
  have hraw := w6_3_raw x M  M3 b12 M13 b21 M22 b31 M32 b42 M43 b54 M55 b67 M68 b81 M82 b96 M97 b112 M113 b129 M130 b147 M148 b166 M167 b186 M187 M209 b251 o252 c250 M256 b281 o282 c280 M286 M331
  have rw0 : Mem.mk M209.blks M209.next M209.hide [] = R231 := eR232.symm
  have rw1 : Mem.mk M256.blks M256.next M209.hide M256.log = M256 := by rw [(show M209.hide = M256.hide from ((X230).hide.trans (X278).hide.symm))]
  have rw2 : Mem.mk M256.blks M256.next (hides 224 [⟨4, 1, M209.next, M256.next⟩, ⟨3, 1, M209.next, M209.next⟩] ++ M209.hide) M256.log = hidx (hides 224 [⟨4, 1, M209.next, M256.next⟩, ⟨3, 1, M209.next, M209.next⟩]) M256 := by rw [(show M209.hide = M256.hide from ((X230).hide.trans (X278).hide.symm))]; rfl
  have rw3 : Mem.mk M286.blks M286.next M209.hide M286.log = M286 := by rw [(show M209.hide = M286.hide from ((X230).hide.trans (X309).hide.symm))]
  have rw4 : (Mem.mk M286.blks M286.next M209.hide (M286.log ++ M209.log)) = (Mem.mk M286.blks M286.next M286.hide (M286.log ++ M209.log)) := by rw [(show M209.hide = M286.hide from ((X230).hide.trans (X309).hide.symm))]
  have rw5 : (Mem.mk M286.blks M286.next M286.hide (M286.log ++ M209.log)) = M310 := ef311.symm
  try rw [rw0] at hraw
  try rw [rw1] at hraw
  try rw [rw2] at hraw
  try rw [rw3] at hraw
  try rw [rw4] at hraw
  try rw [rw5] at hraw
  exact ⟨(.bool true), M331, Ev.told_tmp noNumP mixedP Try.func6 q6_ok (by kernel_rfl) rK6 (fun B => specsB_ok (k := []) (hS6_8_10_12_13_18 B) (fun p hp => by cases hp)) (fun _ _ => rfl) hraw (hk (q_call rfl p4 l5 e6) (hk (q_eq (by rw [← eb14, ← em15]; kernel_rfl) Nat.one_ne_zero) (hk (q_eq (by rw [← eb23, ← em24]; kernel_rfl) Nat.one_ne_zero) (hk (q_eq (by rw [← eb33, ← em34]; kernel_rfl) Nat.one_ne_zero) (hk (q_eq (by rw [← eb44, ← em45]; kernel_rfl) Nat.one_ne_zero) (hk (q_eq (by rw [← eb56, ← em57]; kernel_rfl) Nat.one_ne_zero) (hk (q_eq (by rw [← eb69, ← em70]; kernel_rfl) Nat.one_ne_zero) (hk (q_eq (by rw [← eb83, ← em84]; kernel_rfl) Nat.one_ne_zero) (hk (q_eq (by rw [← eb98, ← em99]; kernel_rfl) Nat.one_ne_zero) (hk (q_eq (by rw [← eb114, ← em115]; kernel_rfl) Nat.one_ne_zero) (hk (q_eq (by rw [← eb131, ← em132]; kernel_rfl) Nat.one_ne_zero) (hk (q_eq (by rw [← eb149, ← em150]; kernel_rfl) Nat.one_ne_zero) (hk (q_eq (by rw [← eb168, ← em169]; kernel_rfl) Nat.one_ne_zero) (hk (q_eq (by rw [← eb188, ← em189]; kernel_rfl) Nat.one_ne_zero) (hk (q_call rfl p210 l211 e212) (hk (lA ⟨dA26, dS26⟩ g241 rfl) (hk (q_call rfl p257 l258 e259) (hk (lA ⟨dA26, dS26⟩ (hidx_get.2 ⟨hides_low (by simp; omega), g269⟩) rfl) (hk (q_lt ltb67M209) (hk (q_call rfl p287 l288 e289) (hk (q_apart (by rw [lg308]; simp <;> omega)) (hk (q_ld (by have := ld_one (P := Try.prog) (ty := 4) (i := 0) (hx_out (R := pBools) F328) rfl rfl dC4; simpa using this)) (hk (q_ld (by have := ld_one (P := Try.prog) (ty := 4) (i := 1) (hx_out (R := pBools) F328) rfl rfl dC4; simpa using this)) (hk (lC dC22 g326 rfl) (hk (q_call rfl p332 l333 e334) (hk (lC dC3 g346 rfl) (hk (lC dC22 g353 rfl) (hk (lC dC3 g346 rfl) hn)))))))))))))))))))))))))))), X354, hM336, rfl⟩
theorem w6_4_raw (x : Int) (M : Mem) (M3 : Mem) (b12 : Nat) (M13 : Mem) (b21 : Nat) (M22 : Mem) (b31 : Nat) (M32 : Mem) (b42 : Nat) (M43 : Mem) (b54 : Nat) (M55 : Mem) (b67 : Nat) (M68 : Mem) (b81 : Nat) (M82 : Mem) (b96 : Nat) (M97 : Mem) (b112 : Nat) (M113 : Mem) (b129 : Nat) (M130 : Mem) (b147 : Nat) (M148 : Mem) (b166 : Nat) (M167 : Mem) (b186 : Nat) (M187 : Mem) (M209 : Mem) (b251 : Nat) (o252 : Nat) (c250 : Nat) (M256 : Mem) (b281 : Nat) (o282 : Nat) (c280 : Nat) (M286 : Mem) (M331 : Mem) : oT Try.prog [] 100 Try.f6 q6 [(i64 x)] M [ttV 3 (.bool true) M3, ttV 14 (sli b12 0 2 3) M13, ttV 22 (sli b21 0 2 3) M22, ttV 28 (sli b31 0 1 2) M32, ttV 40 (sli b42 0 4 5) M43, ttV 48 (sli b54 0 2 3) M55, ttV 52 (sli b67 0 6 7) M68, ttV 56 (sli b81 0 3 4) M82, ttV 58 (sli b96 0 3 4) M97, ttV 60 (sli b112 0 2 3) M113, ttV 62 (sli b129 0 2 3) M130, ttV 64 (sli b147 0 4 5) M148, ttV 66 (sli b166 0 1 2) M167, ttV 68 (sli b186 0 6 7) M187, ttV 78 (i64 4) M209, ttL 88 (.agg ⟨[(i64 4), (sli b42 0 4 5)]⟩), ttV 90 (sli b251 o252 4 c250) M256, ttL 98 (.agg ⟨[(i64 4), (sli b42 0 4 5)]⟩), ttV 100 (sli b281 o282 4 c280) M286, ttL 125 (.bool false), ttL 149 (.bool false), ttL 173 (.bool false), ttL 197 (.bool false), ttL 223 (sli b147 0 4 5), ttV 225 (.bool true) M331, ttL 239 (i64 4), ttL 247 (sli b147 0 4 5), ttL 271 (i64 4)] 2 = some (.ret, some (.bool true), M331, [qC 8 [] M (.bool true) M3, .eq (abuildSlice Try.prog 24 2 [(0, (.agg ⟨[(i64 0), (i64 1), (i64 0), (i64 0)]⟩)), (1, (.agg ⟨[(i64 1), (i64 2), (i64 0), (i64 0)]⟩))] M3) (1, .val (sli b12 0 2 3), M13), .eq (abuildSlice Try.prog 24 2 [(0, (.agg ⟨[(i64 0), (i64 1), (i64 0), (i64 0)]⟩)), (1, (.agg ⟨[(i64 1), (i64 2), (i64 1), (i64 0)]⟩))] M13) (1, .val (sli b21 0 2 3), M22), .eq (abuildSlice Try.prog 24 1 [(0, (.agg ⟨[(i64 0), (i64 0), (i64 3), (i64 0)]⟩))] M22) (1, .val (sli b31 0 1 2), M32), .eq (abuildSlice Try.prog 24 4 [(0, (.agg ⟨[(i64 3), (i64 2), (i64 0), (i64 0)]⟩)), (1, (.agg ⟨[(i64 3), (i64 1), (i64 0), (i64 0)]⟩)), (2, (.agg ⟨[(i64 3), (i64 0), (i64 0), (i64 0)]⟩)), (3, (.agg ⟨[(i64 0), (i64 0), (i64 0), (i64 0)]⟩))] M32) (1, .val (sli b42 0 4 5), M43), .eq (abuildSlice Try.prog 24 2 [(0, (.agg ⟨[(i64 0), (i64 0), (i64 0), (i64 0)]⟩)), (1, (.agg ⟨[(i64 0), (i64 0), (i64 4), (i64 0)]⟩))] M43) (1, .val (sli b54 0 2 3), M55), .eq (abuildSlice Try.prog 40 6 [(0, (.agg ⟨[(i64 3), sln]⟩)), (1, (.agg ⟨[(i64 3), (sli b12 0 2 3)]⟩)), (2, (.agg ⟨[(i64 3), (sli b21 0 2 3)]⟩)), (3, (.agg ⟨[(i64 2), (sli b31 0 1 2)]⟩)), (4, (.agg ⟨[(i64 4), (sli b42 0 4 5)]⟩)), (5, (.agg ⟨[(i64 2), (sli b54 0 2 3)]⟩))] M55) (1, .val (sli b67 0 6 7), M68), .eq (abuildSlice Try.prog 22 3 [(0, (i64 0)), (1, (i64 1)), (2, (i64 2))] M68) (1, .val (sli b81 0 3 4), M82), .eq (abuildSlice Try.prog 22 3 [(0, (i64 0)), (1, (i64 2)), (2, (i64 1))] M82) (1, .val (sli b96 0 3 4), M97), .eq (abuildSlice Try.prog 22 2 [(0, (i64 0)), (1, (i64 2))] M97) (1, .val (sli b112 0 2 3), M113), .eq (abuildSlice Try.prog 22 2 [(0, (i64 1)), (1, (i64 0))] M113) (1, .val (sli b129 0 2 3), M130), .eq (abuildSlice Try.prog 22 4 [(0, (i64 1)), (1, (i64 2)), (2, (i64 0)), (3, (i64 3))] M130) (1, .val (sli b147 0 4 5), M148), .eq (abuildSlice Try.prog 22 1 [(0, (i64 1))] M148) (1, .val (sli b166 0 1 2), M167), .eq (abuildSlice Try.prog 41 6 [(0, (sli b81 0 3 4)), (1, (sli b96 0 3 4)), (2, (sli b112 0 2 3)), (3, (sli b129 0 2 3)), (4, (sli b147 0 4 5)), (5, (sli b166 0 1 2))] M167) (1, .val (sli b186 0 6 7), M187), qC 18 [(i64 x), (i64 6)] M187 (i64 4) M209, qL 26 b67 8 (Mem.mk M209.blks M209.next M209.hide []) (.agg ⟨[(i64 4), (sli b42 0 4 5)]⟩), qC 13 [(.agg ⟨[(i64 4), (sli b42 0 4 5)]⟩)] (Mem.mk M209.blks M209.next M209.hide []) (sli b251 o252 4 c250) M256, qL 26 b67 8 (Mem.mk M256.blks M256.next (hides 224 [⟨4, 1, M209.next, M256.next⟩, ⟨3, 1, M209.next, M209.next⟩] ++ M209.hide) M256.log) (.agg ⟨[(i64 4), (sli b42 0 4 5)]⟩), qT (Nat.blt b67 M209.next), qC 10 [(.agg ⟨[(i64 4), (sli b42 0 4 5)]⟩)] (Mem.mk M256.blks M256.next M209.hide M256.log) (sli b281 o282 4 c280) M286, qT (apartN [b67] M286.log), qL 4 b281 (o282 + 0) (Mem.mk M286.blks M286.next M209.hide (M286.log ++ M209.log)) (.bool false), qL 4 b281 (o282 + 1) (Mem.mk M286.blks M286.next M209.hide (M286.log ++ M209.log)) (.bool false), qL 4 b281 (o282 + 2) (Mem.mk M286.blks M286.next M209.hide (M286.log ++ M209.log)) (.bool false), qL 4 b281 (o282 + 3) (Mem.mk M286.blks M286.next M209.hide (M286.log ++ M209.log)) (.bool false), qL 22 b186 4 (Mem.mk M286.blks M286.next M209.hide (M286.log ++ M209.log)) (sli b147 0 4 5), qC 12 [(sli b251 o252 4 c250), (sli b147 0 4 5)] (Mem.mk M286.blks M286.next M209.hide (M286.log ++ M209.log)) (.bool true) M331, qL 3 b67 8 M331 (i64 4), qL 22 b186 4 M331 (sli b147 0 4 5), qL 3 b67 8 M331 (i64 4)]) := by kernel_rfl
theorem w6_4 (x : Int) {M : Mem} (hM : MemOk M) (hkk : modI x 6 = 4) : ∃ v_ M', Ev Try.prog [] 6 [(i64 x)] M v_ M' ∧ Ext M M' ∧ MemOk M' ∧ v_ = .bool true := by
  obtain ⟨w1, N2, M3, p4, l5, e6, E7, hM8, F9⟩ := call_fc (x := ()) hM con8 (rfl)
  have nx10 := E7.next
  have ew1 : w1 = (.bool true) := F9
  subst ew1
  have X11 := (Ext.refl M).trans E7
  obtain ⟨b12, M13, eb14, em15, g16, E17, hM18⟩ := new_t hM8 ⟨[(i64 0), (i64 1), (i64 0), (i64 0), (i64 1), (i64 2), (i64 0), (i64 0)], 37, 4, 0, true⟩
  have nb12 : M.next ≤ b12 := by rw [← eb14]; exact X11.next
  have nx19 := E17.next
  have X20 := X11.trans E17
  obtain ⟨b21, M22, eb23, em24, g25, E26, hM27⟩ := new_t hM18 ⟨[(i64 0), (i64 1), (i64 0), (i64 0), (i64 1), (i64 2), (i64 1), (i64 0)], 37, 4, 0, true⟩
  have nb21 : M.next ≤ b21 := by rw [← eb23]; exact X20.next
  have db12b21 : b12 ≠ b21 := by have := Mem.lt_of_get g16; omega
  have g28 := E26.old g16
  have nx29 := E26.next
  have X30 := X20.trans E26
  obtain ⟨b31, M32, eb33, em34, g35, E36, hM37⟩ := new_t hM27 ⟨[(i64 0), (i64 0), (i64 3), (i64 0)], 37, 4, 0, true⟩
  have nb31 : M.next ≤ b31 := by rw [← eb33]; exact X30.next
  have db12b31 : b12 ≠ b31 := by have := Mem.lt_of_get g28; omega
  have db21b31 : b21 ≠ b31 := by have := Mem.lt_of_get g25; omega
  have g38 := E36.old g28
  have g39 := E36.old g25
  have nx40 := E36.next
  have X41 := X30.trans E36
  obtain ⟨b42, M43, eb44, em45, g46, E47, hM48⟩ := new_t hM37 ⟨[(i64 3), (i64 2), (i64 0), (i64 0), (i64 3), (i64 1), (i64 0), (i64 0), (i64 3), (i64 0), (i64 0), (i64 0), (i64 0), (i64 0), (i64 0), (i64 0)], 37, 4, 0, true⟩
  have nb42 : M.next ≤ b42 := by rw [← eb44]; exact X41.next
  have db12b42 : b12 ≠ b42 := by have := Mem.lt_of_get g38; omega
  have db21b42 : b21 ≠ b42 := by have := Mem.lt_of_get g39; omega
  have db31b42 : b31 ≠ b42 := by have := Mem.lt_of_get g35; omega
  have g49 := E47.old g38
  have g50 := E47.old g39
  have g51 := E47.old g35
  have nx52 := E47.next
  have X53 := X41.trans E47
  obtain ⟨b54, M55, eb56, em57, g58, E59, hM60⟩ := new_t hM48 ⟨[(i64 0), (i64 0), (i64 0), (i64 0), (i64 0), (i64 0), (i64 4), (i64 0)], 37, 4, 0, true⟩
  have nb54 : M.next ≤ b54 := by rw [← eb56]; exact X53.next
  have db12b54 : b12 ≠ b54 := by have := Mem.lt_of_get g49; omega
  have db21b54 : b21 ≠ b54 := by have := Mem.lt_of_get g50; omega
  have db31b54 : b31 ≠ b54 := by have := Mem.lt_of_get g51; omega
  have db42b54 : b42 ≠ b54 := by have := Mem.lt_of_get g46; omega
  have g61 := E59.old g49
  have g62 := E59.old g50
  have g63 := E59.old g51
  have g64 := E59.old g46
  have nx65 := E59.next
  have X66 := X53.trans E59
  obtain ⟨b67, M68, eb69, em70, g71, E72, hM73⟩ := new_t hM60 ⟨[(i64 3), sln, (i64 3), (sli b12 0 2 3), (i64 3), (sli b21 0 2 3), (i64 2), (sli b31 0 1 2), (i64 4), (sli b42 0 4 5), (i64 2), (sli b54 0 2 3)], 26, 2, 0, true⟩
  have nb67 : M.next ≤ b67 := by rw [← eb69]; exact X66.next
  have db12b67 : b12 ≠ b67 := by have := Mem.lt_of_get g61; omega
  have db21b67 : b21 ≠ b67 := by have := Mem.lt_of_get g62; omega
  have db31b67 : b31 ≠ b67 := by have := Mem.lt_of_get g63; omega
  have db42b67 : b42 ≠ b67 := by have := Mem.lt_of_get g64; omega
  have db54b67 : b54 ≠ b67 := by have := Mem.lt_of_get g58; omega
  have g74 := E72.old g61
  have g75 := E72.old g62
  have g76 := E72.old g63
  have g77 := E72.old g64
  have g78 := E72.old g58
  have nx79 := E72.next
  have X80 := X66.trans E72
  obtain ⟨b81, M82, eb83, em84, g85, E86, hM87⟩ := new_t hM73 ⟨[(i64 0), (i64 1), (i64 2)], 3, 1, 0, true⟩
  have nb81 : M.next ≤ b81 := by rw [← eb83]; exact X80.next
  have db12b81 : b12 ≠ b81 := by have := Mem.lt_of_get g74; omega
  have db21b81 : b21 ≠ b81 := by have := Mem.lt_of_get g75; omega
  have db31b81 : b31 ≠ b81 := by have := Mem.lt_of_get g76; omega
  have db42b81 : b42 ≠ b81 := by have := Mem.lt_of_get g77; omega
  have db54b81 : b54 ≠ b81 := by have := Mem.lt_of_get g78; omega
  have db67b81 : b67 ≠ b81 := by have := Mem.lt_of_get g71; omega
  have g88 := E86.old g74
  have g89 := E86.old g75
  have g90 := E86.old g76
  have g91 := E86.old g77
  have g92 := E86.old g78
  have g93 := E86.old g71
  have nx94 := E86.next
  have X95 := X80.trans E86
  obtain ⟨b96, M97, eb98, em99, g100, E101, hM102⟩ := new_t hM87 ⟨[(i64 0), (i64 2), (i64 1)], 3, 1, 0, true⟩
  have nb96 : M.next ≤ b96 := by rw [← eb98]; exact X95.next
  have db12b96 : b12 ≠ b96 := by have := Mem.lt_of_get g88; omega
  have db21b96 : b21 ≠ b96 := by have := Mem.lt_of_get g89; omega
  have db31b96 : b31 ≠ b96 := by have := Mem.lt_of_get g90; omega
  have db42b96 : b42 ≠ b96 := by have := Mem.lt_of_get g91; omega
  have db54b96 : b54 ≠ b96 := by have := Mem.lt_of_get g92; omega
  have db67b96 : b67 ≠ b96 := by have := Mem.lt_of_get g93; omega
  have db81b96 : b81 ≠ b96 := by have := Mem.lt_of_get g85; omega
  have g103 := E101.old g88
  have g104 := E101.old g89
  have g105 := E101.old g90
  have g106 := E101.old g91
  have g107 := E101.old g92
  have g108 := E101.old g93
  have g109 := E101.old g85
  have nx110 := E101.next
  have X111 := X95.trans E101
  obtain ⟨b112, M113, eb114, em115, g116, E117, hM118⟩ := new_t hM102 ⟨[(i64 0), (i64 2)], 3, 1, 0, true⟩
  have nb112 : M.next ≤ b112 := by rw [← eb114]; exact X111.next
  have db12b112 : b12 ≠ b112 := by have := Mem.lt_of_get g103; omega
  have db21b112 : b21 ≠ b112 := by have := Mem.lt_of_get g104; omega
  have db31b112 : b31 ≠ b112 := by have := Mem.lt_of_get g105; omega
  have db42b112 : b42 ≠ b112 := by have := Mem.lt_of_get g106; omega
  have db54b112 : b54 ≠ b112 := by have := Mem.lt_of_get g107; omega
  have db67b112 : b67 ≠ b112 := by have := Mem.lt_of_get g108; omega
  have db81b112 : b81 ≠ b112 := by have := Mem.lt_of_get g109; omega
  have db96b112 : b96 ≠ b112 := by have := Mem.lt_of_get g100; omega
  have g119 := E117.old g103
  have g120 := E117.old g104
  have g121 := E117.old g105
  have g122 := E117.old g106
  have g123 := E117.old g107
  have g124 := E117.old g108
  have g125 := E117.old g109
  have g126 := E117.old g100
  have nx127 := E117.next
  have X128 := X111.trans E117
  obtain ⟨b129, M130, eb131, em132, g133, E134, hM135⟩ := new_t hM118 ⟨[(i64 1), (i64 0)], 3, 1, 0, true⟩
  have nb129 : M.next ≤ b129 := by rw [← eb131]; exact X128.next
  have db12b129 : b12 ≠ b129 := by have := Mem.lt_of_get g119; omega
  have db21b129 : b21 ≠ b129 := by have := Mem.lt_of_get g120; omega
  have db31b129 : b31 ≠ b129 := by have := Mem.lt_of_get g121; omega
  have db42b129 : b42 ≠ b129 := by have := Mem.lt_of_get g122; omega
  have db54b129 : b54 ≠ b129 := by have := Mem.lt_of_get g123; omega
  have db67b129 : b67 ≠ b129 := by have := Mem.lt_of_get g124; omega
  have db81b129 : b81 ≠ b129 := by have := Mem.lt_of_get g125; omega
  have db96b129 : b96 ≠ b129 := by have := Mem.lt_of_get g126; omega
  have db112b129 : b112 ≠ b129 := by have := Mem.lt_of_get g116; omega
  have g136 := E134.old g119
  have g137 := E134.old g120
  have g138 := E134.old g121
  have g139 := E134.old g122
  have g140 := E134.old g123
  have g141 := E134.old g124
  have g142 := E134.old g125
  have g143 := E134.old g126
  have g144 := E134.old g116
  have nx145 := E134.next
  have X146 := X128.trans E134
  obtain ⟨b147, M148, eb149, em150, g151, E152, hM153⟩ := new_t hM135 ⟨[(i64 1), (i64 2), (i64 0), (i64 3)], 3, 1, 0, true⟩
  have nb147 : M.next ≤ b147 := by rw [← eb149]; exact X146.next
  have db12b147 : b12 ≠ b147 := by have := Mem.lt_of_get g136; omega
  have db21b147 : b21 ≠ b147 := by have := Mem.lt_of_get g137; omega
  have db31b147 : b31 ≠ b147 := by have := Mem.lt_of_get g138; omega
  have db42b147 : b42 ≠ b147 := by have := Mem.lt_of_get g139; omega
  have db54b147 : b54 ≠ b147 := by have := Mem.lt_of_get g140; omega
  have db67b147 : b67 ≠ b147 := by have := Mem.lt_of_get g141; omega
  have db81b147 : b81 ≠ b147 := by have := Mem.lt_of_get g142; omega
  have db96b147 : b96 ≠ b147 := by have := Mem.lt_of_get g143; omega
  have db112b147 : b112 ≠ b147 := by have := Mem.lt_of_get g144; omega
  have db129b147 : b129 ≠ b147 := by have := Mem.lt_of_get g133; omega
  have g154 := E152.old g136
  have g155 := E152.old g137
  have g156 := E152.old g138
  have g157 := E152.old g139
  have g158 := E152.old g140
  have g159 := E152.old g141
  have g160 := E152.old g142
  have g161 := E152.old g143
  have g162 := E152.old g144
  have g163 := E152.old g133
  have nx164 := E152.next
  have X165 := X146.trans E152
  obtain ⟨b166, M167, eb168, em169, g170, E171, hM172⟩ := new_t hM153 ⟨[(i64 1)], 3, 1, 0, true⟩
  have nb166 : M.next ≤ b166 := by rw [← eb168]; exact X165.next
  have db12b166 : b12 ≠ b166 := by have := Mem.lt_of_get g154; omega
  have db21b166 : b21 ≠ b166 := by have := Mem.lt_of_get g155; omega
  have db31b166 : b31 ≠ b166 := by have := Mem.lt_of_get g156; omega
  have db42b166 : b42 ≠ b166 := by have := Mem.lt_of_get g157; omega
  have db54b166 : b54 ≠ b166 := by have := Mem.lt_of_get g158; omega
  have db67b166 : b67 ≠ b166 := by have := Mem.lt_of_get g159; omega
  have db81b166 : b81 ≠ b166 := by have := Mem.lt_of_get g160; omega
  have db96b166 : b96 ≠ b166 := by have := Mem.lt_of_get g161; omega
  have db112b166 : b112 ≠ b166 := by have := Mem.lt_of_get g162; omega
  have db129b166 : b129 ≠ b166 := by have := Mem.lt_of_get g163; omega
  have db147b166 : b147 ≠ b166 := by have := Mem.lt_of_get g151; omega
  have g173 := E171.old g154
  have g174 := E171.old g155
  have g175 := E171.old g156
  have g176 := E171.old g157
  have g177 := E171.old g158
  have g178 := E171.old g159
  have g179 := E171.old g160
  have g180 := E171.old g161
  have g181 := E171.old g162
  have g182 := E171.old g163
  have g183 := E171.old g151
  have nx184 := E171.next
  have X185 := X165.trans E171
  obtain ⟨b186, M187, eb188, em189, g190, E191, hM192⟩ := new_t hM172 ⟨[(sli b81 0 3 4), (sli b96 0 3 4), (sli b112 0 2 3), (sli b129 0 2 3), (sli b147 0 4 5), (sli b166 0 1 2)], 22, 1, 0, true⟩
  have nb186 : M.next ≤ b186 := by rw [← eb188]; exact X185.next
  have db12b186 : b12 ≠ b186 := by have := Mem.lt_of_get g173; omega
  have db21b186 : b21 ≠ b186 := by have := Mem.lt_of_get g174; omega
  have db31b186 : b31 ≠ b186 := by have := Mem.lt_of_get g175; omega
  have db42b186 : b42 ≠ b186 := by have := Mem.lt_of_get g176; omega
  have db54b186 : b54 ≠ b186 := by have := Mem.lt_of_get g177; omega
  have db67b186 : b67 ≠ b186 := by have := Mem.lt_of_get g178; omega
  have db81b186 : b81 ≠ b186 := by have := Mem.lt_of_get g179; omega
  have db96b186 : b96 ≠ b186 := by have := Mem.lt_of_get g180; omega
  have db112b186 : b112 ≠ b186 := by have := Mem.lt_of_get g181; omega
  have db129b186 : b129 ≠ b186 := by have := Mem.lt_of_get g182; omega
  have db147b186 : b147 ≠ b186 := by have := Mem.lt_of_get g183; omega
  have db166b186 : b166 ≠ b186 := by have := Mem.lt_of_get g170; omega
  have g193 := E191.old g173
  have g194 := E191.old g174
  have g195 := E191.old g175
  have g196 := E191.old g176
  have g197 := E191.old g177
  have g198 := E191.old g178
  have g199 := E191.old g179
  have g200 := E191.old g180
  have g201 := E191.old g181
  have g202 := E191.old g182
  have g203 := E191.old g183
  have g204 := E191.old g170
  have nx205 := E191.next
  have X206 := X185.trans E191
  have ltb12M209 := Mem.lt_of_get g193
  have ltb21M209 := Mem.lt_of_get g194
  have ltb31M209 := Mem.lt_of_get g195
  have ltb42M209 := Mem.lt_of_get g196
  have ltb54M209 := Mem.lt_of_get g197
  have ltb67M209 := Mem.lt_of_get g198
  have ltb81M209 := Mem.lt_of_get g199
  have ltb96M209 := Mem.lt_of_get g200
  have ltb112M209 := Mem.lt_of_get g201
  have ltb129M209 := Mem.lt_of_get g202
  have ltb147M209 := Mem.lt_of_get g203
  have ltb166M209 := Mem.lt_of_get g204
  have ltb186M209 := Mem.lt_of_get g190
  obtain ⟨w207, N208, M209, p210, l211, e212, E213, hM214, F215⟩ := call_fc (x := (x, 6)) hM192 con18 (⟨⟨_, _, rfl, rfl, rfl⟩, rfl⟩)
  have nx216 := E213.next
  have g217 := E213.old g193
  have g218 := E213.old g194
  have g219 := E213.old g195
  have g220 := E213.old g196
  have g221 := E213.old g197
  have g222 := E213.old g198
  have g223 := E213.old g199
  have g224 := E213.old g200
  have g225 := E213.old g201
  have g226 := E213.old g202
  have g227 := E213.old g203
  have g228 := E213.old g204
  have g229 := E213.old g190
  have ew207 : w207 = i64 4 := (show w207 = i64 (modI x 6) from F215).trans (by rw [hkk])
  subst ew207
  have X230 := X206.trans E213
  obtain ⟨R231, eR232⟩ : ∃ m : Mem, m = Mem.mk M209.blks M209.next M209.hide [] := ⟨_, rfl⟩
  have X233 : Ext (Mem.mk M.blks M.next M.hide []) R231 := by rw [eR232]; exact Ext.aside (X230)
  have lg234 : R231.log = [] := by rw [eR232]
  have nxR231 : R231.next = M209.next := by rw [eR232]
  have hM235 : MemOk R231 := by rw [eR232]; exact MemOk.log hM214
  have ltb12M209 : b12 < M209.next := by have h := Mem.lt_of_get g217; exact h
  have g236 : R231.get b12 = some ⟨[(i64 0), (i64 1), (i64 0), (i64 0), (i64 1), (i64 2), (i64 0), (i64 0)], 37, 4, 0, true⟩ := by rw [eR232]; exact g217
  have ltb21M209 : b21 < M209.next := by have h := Mem.lt_of_get g218; exact h
  have g237 : R231.get b21 = some ⟨[(i64 0), (i64 1), (i64 0), (i64 0), (i64 1), (i64 2), (i64 1), (i64 0)], 37, 4, 0, true⟩ := by rw [eR232]; exact g218
  have ltb31M209 : b31 < M209.next := by have h := Mem.lt_of_get g219; exact h
  have g238 : R231.get b31 = some ⟨[(i64 0), (i64 0), (i64 3), (i64 0)], 37, 4, 0, true⟩ := by rw [eR232]; exact g219
  have ltb42M209 : b42 < M209.next := by have h := Mem.lt_of_get g220; exact h
  have g239 : R231.get b42 = some ⟨[(i64 3), (i64 2), (i64 0), (i64 0), (i64 3), (i64 1), (i64 0), (i64 0), (i64 3), (i64 0), (i64 0), (i64 0), (i64 0), (i64 0), (i64 0), (i64 0)], 37, 4, 0, true⟩ := by rw [eR232]; exact g220
  have ltb54M209 : b54 < M209.next := by have h := Mem.lt_of_get g221; exact h
  have g240 : R231.get b54 = some ⟨[(i64 0), (i64 0), (i64 0), (i64 0), (i64 0), (i64 0), (i64 4), (i64 0)], 37, 4, 0, true⟩ := by rw [eR232]; exact g221
  have ltb67M209 : b67 < M209.next := by have h := Mem.lt_of_get g222; exact h
  have g241 : R231.get b67 = some ⟨[(i64 3), sln, (i64 3), (sli b12 0 2 3), (i64 3), (sli b21 0 2 3), (i64 2), (sli b31 0 1 2), (i64 4), (sli b42 0 4 5), (i64 2), (sli b54 0 2 3)], 26, 2, 0, true⟩ := by rw [eR232]; exact g222
  have ltb81M209 : b81 < M209.next := by have h := Mem.lt_of_get g223; exact h
  have g242 : R231.get b81 = some ⟨[(i64 0), (i64 1), (i64 2)], 3, 1, 0, true⟩ := by rw [eR232]; exact g223
  have ltb96M209 : b96 < M209.next := by have h := Mem.lt_of_get g224; exact h
  have g243 : R231.get b96 = some ⟨[(i64 0), (i64 2), (i64 1)], 3, 1, 0, true⟩ := by rw [eR232]; exact g224
  have ltb112M209 : b112 < M209.next := by have h := Mem.lt_of_get g225; exact h
  have g244 : R231.get b112 = some ⟨[(i64 0), (i64 2)], 3, 1, 0, true⟩ := by rw [eR232]; exact g225
  have ltb129M209 : b129 < M209.next := by have h := Mem.lt_of_get g226; exact h
  have g245 : R231.get b129 = some ⟨[(i64 1), (i64 0)], 3, 1, 0, true⟩ := by rw [eR232]; exact g226
  have ltb147M209 : b147 < M209.next := by have h := Mem.lt_of_get g227; exact h
  have g246 : R231.get b147 = some ⟨[(i64 1), (i64 2), (i64 0), (i64 3)], 3, 1, 0, true⟩ := by rw [eR232]; exact g227
  have ltb166M209 : b166 < M209.next := by have h := Mem.lt_of_get g228; exact h
  have g247 : R231.get b166 = some ⟨[(i64 1)], 3, 1, 0, true⟩ := by rw [eR232]; exact g228
  have ltb186M209 : b186 < M209.next := by have h := Mem.lt_of_get g229; exact h
  have g248 : R231.get b186 = some ⟨[(sli b81 0 3 4), (sli b96 0 3 4), (sli b112 0 2 3), (sli b129 0 2 3), (sli b147 0 4 5), (sli b166 0 1 2)], 22, 1, 0, true⟩ := by rw [eR232]; exact g229
  have ltb12M256 := Mem.lt_of_get g236
  have ltb21M256 := Mem.lt_of_get g237
  have ltb31M256 := Mem.lt_of_get g238
  have ltb42M256 := Mem.lt_of_get g239
  have ltb54M256 := Mem.lt_of_get g240
  have ltb67M256 := Mem.lt_of_get g241
  have ltb81M256 := Mem.lt_of_get g242
  have ltb96M256 := Mem.lt_of_get g243
  have ltb112M256 := Mem.lt_of_get g244
  have ltb129M256 := Mem.lt_of_get g245
  have ltb147M256 := Mem.lt_of_get g246
  have ltb166M256 := Mem.lt_of_get g247
  have ltb186M256 := Mem.lt_of_get g248
  obtain ⟨w254, N255, M256, p257, l258, e259, E260, hM261, F262⟩ := call_fc (x := (4, kn4)) hM235 con13 (⟨⟨_, rfl, _, rfl, GRowsAt.of_blk' g239 rfl rfl (fun r hr => by simp [kn4] at hr; rcases hr with rfl | rfl | rfl | rfl <;> rfl) (by decide)⟩, kc4⟩)
  have nx263 := E260.next
  have g264 := E260.old g236
  have g265 := E260.old g237
  have g266 := E260.old g238
  have g267 := E260.old g239
  have g268 := E260.old g240
  have g269 := E260.old g241
  have g270 := E260.old g242
  have g271 := E260.old g243
  have g272 := E260.old g244
  have g273 := E260.old g245
  have g274 := E260.old g246
  have g275 := E260.old g247
  have g276 := E260.old g248
  have G253 : pInts (orderL 4 kn4) w254 (hidx [(0, R231.next)] M256) := hx_of F262
  rw [ko4] at G253
  obtain ⟨a249, c250, ew254⟩ := GRowsAt.form G253
  subst ew254
  obtain ⟨b251, o252, ea249, _⟩ := form_pos G253 (by decide)
  subst ea249
  have lg277 : M256.log = [] := by rw [← e259]; exact lg234
  have X278 := X233.trans E260
  have ltb12M286 := Mem.lt_of_get g264
  have ltb21M286 := Mem.lt_of_get g265
  have ltb31M286 := Mem.lt_of_get g266
  have ltb42M286 := Mem.lt_of_get g267
  have ltb54M286 := Mem.lt_of_get g268
  have ltb67M286 := Mem.lt_of_get g269
  have ltb81M286 := Mem.lt_of_get g270
  have ltb96M286 := Mem.lt_of_get g271
  have ltb112M286 := Mem.lt_of_get g272
  have ltb129M286 := Mem.lt_of_get g273
  have ltb147M286 := Mem.lt_of_get g274
  have ltb166M286 := Mem.lt_of_get g275
  have ltb186M286 := Mem.lt_of_get g276
  obtain ⟨w284, N285, M286, p287, l288, e289, E290, hM291, F292⟩ := call_fc (x := (4, kn4)) hM261 con10 (⟨⟨_, rfl, _, rfl, GRowsAt.of_blk' g267 rfl rfl (fun r hr => by simp [kn4] at hr; rcases hr with rfl | rfl | rfl | rfl <;> rfl) (by decide)⟩, kc4⟩)
  have nx293 := E290.next
  have F294 := hx_ext (R := pInts) G253 E290
  have g295 := E290.old g264
  have g296 := E290.old g265
  have g297 := E290.old g266
  have g298 := E290.old g267
  have g299 := E290.old g268
  have g300 := E290.old g269
  have g301 := E290.old g270
  have g302 := E290.old g271
  have g303 := E290.old g272
  have g304 := E290.old g273
  have g305 := E290.old g274
  have g306 := E290.old g275
  have g307 := E290.old g276
  have G283 : pBools (linksL (adjM 4 kn4) 4) w284 (hidx [(0, M256.next)] M286) := hx_of F292
  rw [kl4] at G283
  obtain ⟨a279, c280, ew284⟩ := GRowsAt.form G283
  subst ew284
  obtain ⟨b281, o282, ea279, _⟩ := form_pos G283 (by decide)
  subst ea279
  have lg308 : M286.log = [] := by rw [← e289]; exact lg277
  have X309 := X278.trans E290
  obtain ⟨M310, ef311⟩ : ∃ m : Mem, m = (Mem.mk M286.blks M286.next M286.hide (M286.log ++ M209.log)) := ⟨_, rfl⟩
  have X312 : Ext M M310 := by rw [ef311]; exact Ext.join (X230) (X309)
  have hM313 : MemOk M310 := by rw [ef311]; exact hM291
  have g314 : M310.get b12 = some ⟨[(i64 0), (i64 1), (i64 0), (i64 0), (i64 1), (i64 2), (i64 0), (i64 0)], 37, 4, 0, true⟩ := by rw [ef311]; exact g295
  have g315 : M310.get b21 = some ⟨[(i64 0), (i64 1), (i64 0), (i64 0), (i64 1), (i64 2), (i64 1), (i64 0)], 37, 4, 0, true⟩ := by rw [ef311]; exact g296
  have g316 : M310.get b31 = some ⟨[(i64 0), (i64 0), (i64 3), (i64 0)], 37, 4, 0, true⟩ := by rw [ef311]; exact g297
  have g317 : M310.get b42 = some ⟨[(i64 3), (i64 2), (i64 0), (i64 0), (i64 3), (i64 1), (i64 0), (i64 0), (i64 3), (i64 0), (i64 0), (i64 0), (i64 0), (i64 0), (i64 0), (i64 0)], 37, 4, 0, true⟩ := by rw [ef311]; exact g298
  have g318 : M310.get b54 = some ⟨[(i64 0), (i64 0), (i64 0), (i64 0), (i64 0), (i64 0), (i64 4), (i64 0)], 37, 4, 0, true⟩ := by rw [ef311]; exact g299
  have g319 : M310.get b67 = some ⟨[(i64 3), sln, (i64 3), (sli b12 0 2 3), (i64 3), (sli b21 0 2 3), (i64 2), (sli b31 0 1 2), (i64 4), (sli b42 0 4 5), (i64 2), (sli b54 0 2 3)], 26, 2, 0, true⟩ := by rw [ef311]; exact g300
  have g320 : M310.get b81 = some ⟨[(i64 0), (i64 1), (i64 2)], 3, 1, 0, true⟩ := by rw [ef311]; exact g301
  have g321 : M310.get b96 = some ⟨[(i64 0), (i64 2), (i64 1)], 3, 1, 0, true⟩ := by rw [ef311]; exact g302
  have g322 : M310.get b112 = some ⟨[(i64 0), (i64 2)], 3, 1, 0, true⟩ := by rw [ef311]; exact g303
  have g323 : M310.get b129 = some ⟨[(i64 1), (i64 0)], 3, 1, 0, true⟩ := by rw [ef311]; exact g304
  have g324 : M310.get b147 = some ⟨[(i64 1), (i64 2), (i64 0), (i64 3)], 3, 1, 0, true⟩ := by rw [ef311]; exact g305
  have g325 : M310.get b166 = some ⟨[(i64 1)], 3, 1, 0, true⟩ := by rw [ef311]; exact g306
  have g326 : M310.get b186 = some ⟨[(sli b81 0 3 4), (sli b96 0 3 4), (sli b112 0 2 3), (sli b129 0 2 3), (sli b147 0 4 5), (sli b166 0 1 2)], 22, 1, 0, true⟩ := by rw [ef311]; exact g307
  have F327 := hx_still (R := pInts) (M' := M310) F294 (fun id b h => by rw [ef311]; exact h)
  have F328 := hx_still (R := pBools) (M' := M310) G283 (fun id b h => by rw [ef311]; exact h)
  have ltb12M331 := Mem.lt_of_get g314
  have ltb21M331 := Mem.lt_of_get g315
  have ltb31M331 := Mem.lt_of_get g316
  have ltb42M331 := Mem.lt_of_get g317
  have ltb54M331 := Mem.lt_of_get g318
  have ltb67M331 := Mem.lt_of_get g319
  have ltb81M331 := Mem.lt_of_get g320
  have ltb96M331 := Mem.lt_of_get g321
  have ltb112M331 := Mem.lt_of_get g322
  have ltb129M331 := Mem.lt_of_get g323
  have ltb147M331 := Mem.lt_of_get g324
  have ltb166M331 := Mem.lt_of_get g325
  have ltb186M331 := Mem.lt_of_get g326
  obtain ⟨w329, N330, M331, p332, l333, e334, E335, hM336, F337⟩ := call_fc (x := (([1, 2, 0, 3] : List Int), ([1, 2, 0, 3] : List Int))) hM313 con12 (⟨_, _, rfl, hx_out (R := pInts) F327, GRowsAt.of_blk' g324 rfl rfl (fun _ _ => rfl) (by decide)⟩)
  have nx338 := E335.next
  have g346 := E335.old g319
  have g353 := E335.old g326
  have ew329 : w329 = (.bool true) := by have h0 : w329 = .bool (decide (([1, 2, 0, 3] : List Int) = [1, 2, 0, 3])) := F337; rw [h0]; rfl
  subst ew329
  have X354 := X312.trans E335
  have hraw := w6_4_raw x M  M3 b12 M13 b21 M22 b31 M32 b42 M43 b54 M55 b67 M68 b81 M82 b96 M97 b112 M113 b129 M130 b147 M148 b166 M167 b186 M187 M209 b251 o252 c250 M256 b281 o282 c280 M286 M331
  have rw0 : Mem.mk M209.blks M209.next M209.hide [] = R231 := eR232.symm
  have rw1 : Mem.mk M256.blks M256.next M209.hide M256.log = M256 := by rw [(show M209.hide = M256.hide from ((X230).hide.trans (X278).hide.symm))]
  have rw2 : Mem.mk M256.blks M256.next (hides 224 [⟨4, 1, M209.next, M256.next⟩, ⟨3, 1, M209.next, M209.next⟩] ++ M209.hide) M256.log = hidx (hides 224 [⟨4, 1, M209.next, M256.next⟩, ⟨3, 1, M209.next, M209.next⟩]) M256 := by rw [(show M209.hide = M256.hide from ((X230).hide.trans (X278).hide.symm))]; rfl
  have rw3 : Mem.mk M286.blks M286.next M209.hide M286.log = M286 := by rw [(show M209.hide = M286.hide from ((X230).hide.trans (X309).hide.symm))]
  have rw4 : (Mem.mk M286.blks M286.next M209.hide (M286.log ++ M209.log)) = (Mem.mk M286.blks M286.next M286.hide (M286.log ++ M209.log)) := by rw [(show M209.hide = M286.hide from ((X230).hide.trans (X309).hide.symm))]
  have rw5 : (Mem.mk M286.blks M286.next M286.hide (M286.log ++ M209.log)) = M310 := ef311.symm
  try rw [rw0] at hraw
  try rw [rw1] at hraw
  try rw [rw2] at hraw
  try rw [rw3] at hraw
  try rw [rw4] at hraw
  try rw [rw5] at hraw
  exact ⟨(.bool true), M331, Ev.told_tmp noNumP mixedP Try.func6 q6_ok (by kernel_rfl) rK6 (fun B => specsB_ok (k := []) (hS6_8_10_12_13_18 B) (fun p hp => by cases hp)) (fun _ _ => rfl) hraw (hk (q_call rfl p4 l5 e6) (hk (q_eq (by rw [← eb14, ← em15]; kernel_rfl) Nat.one_ne_zero) (hk (q_eq (by rw [← eb23, ← em24]; kernel_rfl) Nat.one_ne_zero) (hk (q_eq (by rw [← eb33, ← em34]; kernel_rfl) Nat.one_ne_zero) (hk (q_eq (by rw [← eb44, ← em45]; kernel_rfl) Nat.one_ne_zero) (hk (q_eq (by rw [← eb56, ← em57]; kernel_rfl) Nat.one_ne_zero) (hk (q_eq (by rw [← eb69, ← em70]; kernel_rfl) Nat.one_ne_zero) (hk (q_eq (by rw [← eb83, ← em84]; kernel_rfl) Nat.one_ne_zero) (hk (q_eq (by rw [← eb98, ← em99]; kernel_rfl) Nat.one_ne_zero) (hk (q_eq (by rw [← eb114, ← em115]; kernel_rfl) Nat.one_ne_zero) (hk (q_eq (by rw [← eb131, ← em132]; kernel_rfl) Nat.one_ne_zero) (hk (q_eq (by rw [← eb149, ← em150]; kernel_rfl) Nat.one_ne_zero) (hk (q_eq (by rw [← eb168, ← em169]; kernel_rfl) Nat.one_ne_zero) (hk (q_eq (by rw [← eb188, ← em189]; kernel_rfl) Nat.one_ne_zero) (hk (q_call rfl p210 l211 e212) (hk (lA ⟨dA26, dS26⟩ g241 rfl) (hk (q_call rfl p257 l258 e259) (hk (lA ⟨dA26, dS26⟩ (hidx_get.2 ⟨hides_low (by simp; omega), g269⟩) rfl) (hk (q_lt ltb67M209) (hk (q_call rfl p287 l288 e289) (hk (q_apart (by rw [lg308]; simp <;> omega)) (hk (q_ld (by have := ld_one (P := Try.prog) (ty := 4) (i := 0) (hx_out (R := pBools) F328) rfl rfl dC4; simpa using this)) (hk (q_ld (by have := ld_one (P := Try.prog) (ty := 4) (i := 1) (hx_out (R := pBools) F328) rfl rfl dC4; simpa using this)) (hk (q_ld (by have := ld_one (P := Try.prog) (ty := 4) (i := 2) (hx_out (R := pBools) F328) rfl rfl dC4; simpa using this)) (hk (q_ld (by have := ld_one (P := Try.prog) (ty := 4) (i := 3) (hx_out (R := pBools) F328) rfl rfl dC4; simpa using this)) (hk (lC dC22 g326 rfl) (hk (q_call rfl p332 l333 e334) (hk (lC dC3 g346 rfl) (hk (lC dC22 g353 rfl) (hk (lC dC3 g346 rfl) hn)))))))))))))))))))))))))))))), X354, hM336, rfl⟩
theorem w6_5_raw (x : Int) (M : Mem) (M3 : Mem) (b12 : Nat) (M13 : Mem) (b21 : Nat) (M22 : Mem) (b31 : Nat) (M32 : Mem) (b42 : Nat) (M43 : Mem) (b54 : Nat) (M55 : Mem) (b67 : Nat) (M68 : Mem) (b81 : Nat) (M82 : Mem) (b96 : Nat) (M97 : Mem) (b112 : Nat) (M113 : Mem) (b129 : Nat) (M130 : Mem) (b147 : Nat) (M148 : Mem) (b166 : Nat) (M167 : Mem) (b186 : Nat) (M187 : Mem) (M209 : Mem) (b251 : Nat) (o252 : Nat) (c250 : Nat) (M256 : Mem) (b281 : Nat) (o282 : Nat) (c280 : Nat) (M286 : Mem) (M331 : Mem) : oT Try.prog [] 100 Try.f6 q6 [(i64 x)] M [ttV 3 (.bool true) M3, ttV 14 (sli b12 0 2 3) M13, ttV 22 (sli b21 0 2 3) M22, ttV 28 (sli b31 0 1 2) M32, ttV 40 (sli b42 0 4 5) M43, ttV 48 (sli b54 0 2 3) M55, ttV 52 (sli b67 0 6 7) M68, ttV 56 (sli b81 0 3 4) M82, ttV 58 (sli b96 0 3 4) M97, ttV 60 (sli b112 0 2 3) M113, ttV 62 (sli b129 0 2 3) M130, ttV 64 (sli b147 0 4 5) M148, ttV 66 (sli b166 0 1 2) M167, ttV 68 (sli b186 0 6 7) M187, ttV 78 (i64 5) M209, ttL 88 (.agg ⟨[(i64 2), (sli b54 0 2 3)]⟩), ttV 90 (sli b251 o252 1 c250) M256, ttL 98 (.agg ⟨[(i64 2), (sli b54 0 2 3)]⟩), ttV 100 (sli b281 o282 2 c280) M286, ttL 125 (.bool true), ttL 155 (.bool false), ttL 181 (sli b166 0 1 2), ttV 183 (.bool true) M331, ttL 197 (i64 2), ttL 205 (sli b166 0 1 2), ttL 229 (i64 2)] 2 = some (.ret, some (.bool true), M331, [qC 8 [] M (.bool true) M3, .eq (abuildSlice Try.prog 24 2 [(0, (.agg ⟨[(i64 0), (i64 1), (i64 0), (i64 0)]⟩)), (1, (.agg ⟨[(i64 1), (i64 2), (i64 0), (i64 0)]⟩))] M3) (1, .val (sli b12 0 2 3), M13), .eq (abuildSlice Try.prog 24 2 [(0, (.agg ⟨[(i64 0), (i64 1), (i64 0), (i64 0)]⟩)), (1, (.agg ⟨[(i64 1), (i64 2), (i64 1), (i64 0)]⟩))] M13) (1, .val (sli b21 0 2 3), M22), .eq (abuildSlice Try.prog 24 1 [(0, (.agg ⟨[(i64 0), (i64 0), (i64 3), (i64 0)]⟩))] M22) (1, .val (sli b31 0 1 2), M32), .eq (abuildSlice Try.prog 24 4 [(0, (.agg ⟨[(i64 3), (i64 2), (i64 0), (i64 0)]⟩)), (1, (.agg ⟨[(i64 3), (i64 1), (i64 0), (i64 0)]⟩)), (2, (.agg ⟨[(i64 3), (i64 0), (i64 0), (i64 0)]⟩)), (3, (.agg ⟨[(i64 0), (i64 0), (i64 0), (i64 0)]⟩))] M32) (1, .val (sli b42 0 4 5), M43), .eq (abuildSlice Try.prog 24 2 [(0, (.agg ⟨[(i64 0), (i64 0), (i64 0), (i64 0)]⟩)), (1, (.agg ⟨[(i64 0), (i64 0), (i64 4), (i64 0)]⟩))] M43) (1, .val (sli b54 0 2 3), M55), .eq (abuildSlice Try.prog 40 6 [(0, (.agg ⟨[(i64 3), sln]⟩)), (1, (.agg ⟨[(i64 3), (sli b12 0 2 3)]⟩)), (2, (.agg ⟨[(i64 3), (sli b21 0 2 3)]⟩)), (3, (.agg ⟨[(i64 2), (sli b31 0 1 2)]⟩)), (4, (.agg ⟨[(i64 4), (sli b42 0 4 5)]⟩)), (5, (.agg ⟨[(i64 2), (sli b54 0 2 3)]⟩))] M55) (1, .val (sli b67 0 6 7), M68), .eq (abuildSlice Try.prog 22 3 [(0, (i64 0)), (1, (i64 1)), (2, (i64 2))] M68) (1, .val (sli b81 0 3 4), M82), .eq (abuildSlice Try.prog 22 3 [(0, (i64 0)), (1, (i64 2)), (2, (i64 1))] M82) (1, .val (sli b96 0 3 4), M97), .eq (abuildSlice Try.prog 22 2 [(0, (i64 0)), (1, (i64 2))] M97) (1, .val (sli b112 0 2 3), M113), .eq (abuildSlice Try.prog 22 2 [(0, (i64 1)), (1, (i64 0))] M113) (1, .val (sli b129 0 2 3), M130), .eq (abuildSlice Try.prog 22 4 [(0, (i64 1)), (1, (i64 2)), (2, (i64 0)), (3, (i64 3))] M130) (1, .val (sli b147 0 4 5), M148), .eq (abuildSlice Try.prog 22 1 [(0, (i64 1))] M148) (1, .val (sli b166 0 1 2), M167), .eq (abuildSlice Try.prog 41 6 [(0, (sli b81 0 3 4)), (1, (sli b96 0 3 4)), (2, (sli b112 0 2 3)), (3, (sli b129 0 2 3)), (4, (sli b147 0 4 5)), (5, (sli b166 0 1 2))] M167) (1, .val (sli b186 0 6 7), M187), qC 18 [(i64 x), (i64 6)] M187 (i64 5) M209, qL 26 b67 10 (Mem.mk M209.blks M209.next M209.hide []) (.agg ⟨[(i64 2), (sli b54 0 2 3)]⟩), qC 13 [(.agg ⟨[(i64 2), (sli b54 0 2 3)]⟩)] (Mem.mk M209.blks M209.next M209.hide []) (sli b251 o252 1 c250) M256, qL 26 b67 10 (Mem.mk M256.blks M256.next (hides 224 [⟨4, 1, M209.next, M256.next⟩, ⟨3, 1, M209.next, M209.next⟩] ++ M209.hide) M256.log) (.agg ⟨[(i64 2), (sli b54 0 2 3)]⟩), qT (Nat.blt b67 M209.next), qC 10 [(.agg ⟨[(i64 2), (sli b54 0 2 3)]⟩)] (Mem.mk M256.blks M256.next M209.hide M256.log) (sli b281 o282 2 c280) M286, qT (apartN [b67] M286.log), qL 4 b281 (o282 + 0) (Mem.mk M286.blks M286.next M209.hide (M286.log ++ M209.log)) (.bool true), qL 4 b281 (o282 + 1) (Mem.mk M286.blks M286.next M209.hide (M286.log ++ M209.log)) (.bool false), qL 22 b186 5 (Mem.mk M286.blks M286.next M209.hide (M286.log ++ M209.log)) (sli b166 0 1 2), qC 12 [(sli b251 o252 1 c250), (sli b166 0 1 2)] (Mem.mk M286.blks M286.next M209.hide (M286.log ++ M209.log)) (.bool true) M331, qL 3 b67 10 M331 (i64 2), qL 22 b186 5 M331 (sli b166 0 1 2), qL 3 b67 10 M331 (i64 2)]) := by kernel_rfl
theorem w6_5 (x : Int) {M : Mem} (hM : MemOk M) (hkk : modI x 6 = 5) : ∃ v_ M', Ev Try.prog [] 6 [(i64 x)] M v_ M' ∧ Ext M M' ∧ MemOk M' ∧ v_ = .bool true := by
  obtain ⟨w1, N2, M3, p4, l5, e6, E7, hM8, F9⟩ := call_fc (x := ()) hM con8 (rfl)
  have nx10 := E7.next
  have ew1 : w1 = (.bool true) := F9
  subst ew1
  have X11 := (Ext.refl M).trans E7
  obtain ⟨b12, M13, eb14, em15, g16, E17, hM18⟩ := new_t hM8 ⟨[(i64 0), (i64 1), (i64 0), (i64 0), (i64 1), (i64 2), (i64 0), (i64 0)], 37, 4, 0, true⟩
  have nb12 : M.next ≤ b12 := by rw [← eb14]; exact X11.next
  have nx19 := E17.next
  have X20 := X11.trans E17
  obtain ⟨b21, M22, eb23, em24, g25, E26, hM27⟩ := new_t hM18 ⟨[(i64 0), (i64 1), (i64 0), (i64 0), (i64 1), (i64 2), (i64 1), (i64 0)], 37, 4, 0, true⟩
  have nb21 : M.next ≤ b21 := by rw [← eb23]; exact X20.next
  have db12b21 : b12 ≠ b21 := by have := Mem.lt_of_get g16; omega
  have g28 := E26.old g16
  have nx29 := E26.next
  have X30 := X20.trans E26
  obtain ⟨b31, M32, eb33, em34, g35, E36, hM37⟩ := new_t hM27 ⟨[(i64 0), (i64 0), (i64 3), (i64 0)], 37, 4, 0, true⟩
  have nb31 : M.next ≤ b31 := by rw [← eb33]; exact X30.next
  have db12b31 : b12 ≠ b31 := by have := Mem.lt_of_get g28; omega
  have db21b31 : b21 ≠ b31 := by have := Mem.lt_of_get g25; omega
  have g38 := E36.old g28
  have g39 := E36.old g25
  have nx40 := E36.next
  have X41 := X30.trans E36
  obtain ⟨b42, M43, eb44, em45, g46, E47, hM48⟩ := new_t hM37 ⟨[(i64 3), (i64 2), (i64 0), (i64 0), (i64 3), (i64 1), (i64 0), (i64 0), (i64 3), (i64 0), (i64 0), (i64 0), (i64 0), (i64 0), (i64 0), (i64 0)], 37, 4, 0, true⟩
  have nb42 : M.next ≤ b42 := by rw [← eb44]; exact X41.next
  have db12b42 : b12 ≠ b42 := by have := Mem.lt_of_get g38; omega
  have db21b42 : b21 ≠ b42 := by have := Mem.lt_of_get g39; omega
  have db31b42 : b31 ≠ b42 := by have := Mem.lt_of_get g35; omega
  have g49 := E47.old g38
  have g50 := E47.old g39
  have g51 := E47.old g35
  have nx52 := E47.next
  have X53 := X41.trans E47
  obtain ⟨b54, M55, eb56, em57, g58, E59, hM60⟩ := new_t hM48 ⟨[(i64 0), (i64 0), (i64 0), (i64 0), (i64 0), (i64 0), (i64 4), (i64 0)], 37, 4, 0, true⟩
  have nb54 : M.next ≤ b54 := by rw [← eb56]; exact X53.next
  have db12b54 : b12 ≠ b54 := by have := Mem.lt_of_get g49; omega
  have db21b54 : b21 ≠ b54 := by have := Mem.lt_of_get g50; omega
  have db31b54 : b31 ≠ b54 := by have := Mem.lt_of_get g51; omega
  have db42b54 : b42 ≠ b54 := by have := Mem.lt_of_get g46; omega
  have g61 := E59.old g49
  have g62 := E59.old g50
  have g63 := E59.old g51
  have g64 := E59.old g46
  have nx65 := E59.next
  have X66 := X53.trans E59
  obtain ⟨b67, M68, eb69, em70, g71, E72, hM73⟩ := new_t hM60 ⟨[(i64 3), sln, (i64 3), (sli b12 0 2 3), (i64 3), (sli b21 0 2 3), (i64 2), (sli b31 0 1 2), (i64 4), (sli b42 0 4 5), (i64 2), (sli b54 0 2 3)], 26, 2, 0, true⟩
  have nb67 : M.next ≤ b67 := by rw [← eb69]; exact X66.next
  have db12b67 : b12 ≠ b67 := by have := Mem.lt_of_get g61; omega
  have db21b67 : b21 ≠ b67 := by have := Mem.lt_of_get g62; omega
  have db31b67 : b31 ≠ b67 := by have := Mem.lt_of_get g63; omega
  have db42b67 : b42 ≠ b67 := by have := Mem.lt_of_get g64; omega
  have db54b67 : b54 ≠ b67 := by have := Mem.lt_of_get g58; omega
  have g74 := E72.old g61
  have g75 := E72.old g62
  have g76 := E72.old g63
  have g77 := E72.old g64
  have g78 := E72.old g58
  have nx79 := E72.next
  have X80 := X66.trans E72
  obtain ⟨b81, M82, eb83, em84, g85, E86, hM87⟩ := new_t hM73 ⟨[(i64 0), (i64 1), (i64 2)], 3, 1, 0, true⟩
  have nb81 : M.next ≤ b81 := by rw [← eb83]; exact X80.next
  have db12b81 : b12 ≠ b81 := by have := Mem.lt_of_get g74; omega
  have db21b81 : b21 ≠ b81 := by have := Mem.lt_of_get g75; omega
  have db31b81 : b31 ≠ b81 := by have := Mem.lt_of_get g76; omega
  have db42b81 : b42 ≠ b81 := by have := Mem.lt_of_get g77; omega
  have db54b81 : b54 ≠ b81 := by have := Mem.lt_of_get g78; omega
  have db67b81 : b67 ≠ b81 := by have := Mem.lt_of_get g71; omega
  have g88 := E86.old g74
  have g89 := E86.old g75
  have g90 := E86.old g76
  have g91 := E86.old g77
  have g92 := E86.old g78
  have g93 := E86.old g71
  have nx94 := E86.next
  have X95 := X80.trans E86
  obtain ⟨b96, M97, eb98, em99, g100, E101, hM102⟩ := new_t hM87 ⟨[(i64 0), (i64 2), (i64 1)], 3, 1, 0, true⟩
  have nb96 : M.next ≤ b96 := by rw [← eb98]; exact X95.next
  have db12b96 : b12 ≠ b96 := by have := Mem.lt_of_get g88; omega
  have db21b96 : b21 ≠ b96 := by have := Mem.lt_of_get g89; omega
  have db31b96 : b31 ≠ b96 := by have := Mem.lt_of_get g90; omega
  have db42b96 : b42 ≠ b96 := by have := Mem.lt_of_get g91; omega
  have db54b96 : b54 ≠ b96 := by have := Mem.lt_of_get g92; omega
  have db67b96 : b67 ≠ b96 := by have := Mem.lt_of_get g93; omega
  have db81b96 : b81 ≠ b96 := by have := Mem.lt_of_get g85; omega
  have g103 := E101.old g88
  have g104 := E101.old g89
  have g105 := E101.old g90
  have g106 := E101.old g91
  have g107 := E101.old g92
  have g108 := E101.old g93
  have g109 := E101.old g85
  have nx110 := E101.next
  have X111 := X95.trans E101
  obtain ⟨b112, M113, eb114, em115, g116, E117, hM118⟩ := new_t hM102 ⟨[(i64 0), (i64 2)], 3, 1, 0, true⟩
  have nb112 : M.next ≤ b112 := by rw [← eb114]; exact X111.next
  have db12b112 : b12 ≠ b112 := by have := Mem.lt_of_get g103; omega
  have db21b112 : b21 ≠ b112 := by have := Mem.lt_of_get g104; omega
  have db31b112 : b31 ≠ b112 := by have := Mem.lt_of_get g105; omega
  have db42b112 : b42 ≠ b112 := by have := Mem.lt_of_get g106; omega
  have db54b112 : b54 ≠ b112 := by have := Mem.lt_of_get g107; omega
  have db67b112 : b67 ≠ b112 := by have := Mem.lt_of_get g108; omega
  have db81b112 : b81 ≠ b112 := by have := Mem.lt_of_get g109; omega
  have db96b112 : b96 ≠ b112 := by have := Mem.lt_of_get g100; omega
  have g119 := E117.old g103
  have g120 := E117.old g104
  have g121 := E117.old g105
  have g122 := E117.old g106
  have g123 := E117.old g107
  have g124 := E117.old g108
  have g125 := E117.old g109
  have g126 := E117.old g100
  have nx127 := E117.next
  have X128 := X111.trans E117
  obtain ⟨b129, M130, eb131, em132, g133, E134, hM135⟩ := new_t hM118 ⟨[(i64 1), (i64 0)], 3, 1, 0, true⟩
  have nb129 : M.next ≤ b129 := by rw [← eb131]; exact X128.next
  have db12b129 : b12 ≠ b129 := by have := Mem.lt_of_get g119; omega
  have db21b129 : b21 ≠ b129 := by have := Mem.lt_of_get g120; omega
  have db31b129 : b31 ≠ b129 := by have := Mem.lt_of_get g121; omega
  have db42b129 : b42 ≠ b129 := by have := Mem.lt_of_get g122; omega
  have db54b129 : b54 ≠ b129 := by have := Mem.lt_of_get g123; omega
  have db67b129 : b67 ≠ b129 := by have := Mem.lt_of_get g124; omega
  have db81b129 : b81 ≠ b129 := by have := Mem.lt_of_get g125; omega
  have db96b129 : b96 ≠ b129 := by have := Mem.lt_of_get g126; omega
  have db112b129 : b112 ≠ b129 := by have := Mem.lt_of_get g116; omega
  have g136 := E134.old g119
  have g137 := E134.old g120
  have g138 := E134.old g121
  have g139 := E134.old g122
  have g140 := E134.old g123
  have g141 := E134.old g124
  have g142 := E134.old g125
  have g143 := E134.old g126
  have g144 := E134.old g116
  have nx145 := E134.next
  have X146 := X128.trans E134
  obtain ⟨b147, M148, eb149, em150, g151, E152, hM153⟩ := new_t hM135 ⟨[(i64 1), (i64 2), (i64 0), (i64 3)], 3, 1, 0, true⟩
  have nb147 : M.next ≤ b147 := by rw [← eb149]; exact X146.next
  have db12b147 : b12 ≠ b147 := by have := Mem.lt_of_get g136; omega
  have db21b147 : b21 ≠ b147 := by have := Mem.lt_of_get g137; omega
  have db31b147 : b31 ≠ b147 := by have := Mem.lt_of_get g138; omega
  have db42b147 : b42 ≠ b147 := by have := Mem.lt_of_get g139; omega
  have db54b147 : b54 ≠ b147 := by have := Mem.lt_of_get g140; omega
  have db67b147 : b67 ≠ b147 := by have := Mem.lt_of_get g141; omega
  have db81b147 : b81 ≠ b147 := by have := Mem.lt_of_get g142; omega
  have db96b147 : b96 ≠ b147 := by have := Mem.lt_of_get g143; omega
  have db112b147 : b112 ≠ b147 := by have := Mem.lt_of_get g144; omega
  have db129b147 : b129 ≠ b147 := by have := Mem.lt_of_get g133; omega
  have g154 := E152.old g136
  have g155 := E152.old g137
  have g156 := E152.old g138
  have g157 := E152.old g139
  have g158 := E152.old g140
  have g159 := E152.old g141
  have g160 := E152.old g142
  have g161 := E152.old g143
  have g162 := E152.old g144
  have g163 := E152.old g133
  have nx164 := E152.next
  have X165 := X146.trans E152
  obtain ⟨b166, M167, eb168, em169, g170, E171, hM172⟩ := new_t hM153 ⟨[(i64 1)], 3, 1, 0, true⟩
  have nb166 : M.next ≤ b166 := by rw [← eb168]; exact X165.next
  have db12b166 : b12 ≠ b166 := by have := Mem.lt_of_get g154; omega
  have db21b166 : b21 ≠ b166 := by have := Mem.lt_of_get g155; omega
  have db31b166 : b31 ≠ b166 := by have := Mem.lt_of_get g156; omega
  have db42b166 : b42 ≠ b166 := by have := Mem.lt_of_get g157; omega
  have db54b166 : b54 ≠ b166 := by have := Mem.lt_of_get g158; omega
  have db67b166 : b67 ≠ b166 := by have := Mem.lt_of_get g159; omega
  have db81b166 : b81 ≠ b166 := by have := Mem.lt_of_get g160; omega
  have db96b166 : b96 ≠ b166 := by have := Mem.lt_of_get g161; omega
  have db112b166 : b112 ≠ b166 := by have := Mem.lt_of_get g162; omega
  have db129b166 : b129 ≠ b166 := by have := Mem.lt_of_get g163; omega
  have db147b166 : b147 ≠ b166 := by have := Mem.lt_of_get g151; omega
  have g173 := E171.old g154
  have g174 := E171.old g155
  have g175 := E171.old g156
  have g176 := E171.old g157
  have g177 := E171.old g158
  have g178 := E171.old g159
  have g179 := E171.old g160
  have g180 := E171.old g161
  have g181 := E171.old g162
  have g182 := E171.old g163
  have g183 := E171.old g151
  have nx184 := E171.next
  have X185 := X165.trans E171
  obtain ⟨b186, M187, eb188, em189, g190, E191, hM192⟩ := new_t hM172 ⟨[(sli b81 0 3 4), (sli b96 0 3 4), (sli b112 0 2 3), (sli b129 0 2 3), (sli b147 0 4 5), (sli b166 0 1 2)], 22, 1, 0, true⟩
  have nb186 : M.next ≤ b186 := by rw [← eb188]; exact X185.next
  have db12b186 : b12 ≠ b186 := by have := Mem.lt_of_get g173; omega
  have db21b186 : b21 ≠ b186 := by have := Mem.lt_of_get g174; omega
  have db31b186 : b31 ≠ b186 := by have := Mem.lt_of_get g175; omega
  have db42b186 : b42 ≠ b186 := by have := Mem.lt_of_get g176; omega
  have db54b186 : b54 ≠ b186 := by have := Mem.lt_of_get g177; omega
  have db67b186 : b67 ≠ b186 := by have := Mem.lt_of_get g178; omega
  have db81b186 : b81 ≠ b186 := by have := Mem.lt_of_get g179; omega
  have db96b186 : b96 ≠ b186 := by have := Mem.lt_of_get g180; omega
  have db112b186 : b112 ≠ b186 := by have := Mem.lt_of_get g181; omega
  have db129b186 : b129 ≠ b186 := by have := Mem.lt_of_get g182; omega
  have db147b186 : b147 ≠ b186 := by have := Mem.lt_of_get g183; omega
  have db166b186 : b166 ≠ b186 := by have := Mem.lt_of_get g170; omega
  have g193 := E191.old g173
  have g194 := E191.old g174
  have g195 := E191.old g175
  have g196 := E191.old g176
  have g197 := E191.old g177
  have g198 := E191.old g178
  have g199 := E191.old g179
  have g200 := E191.old g180
  have g201 := E191.old g181
  have g202 := E191.old g182
  have g203 := E191.old g183
  have g204 := E191.old g170
  have nx205 := E191.next
  have X206 := X185.trans E191
  have ltb12M209 := Mem.lt_of_get g193
  have ltb21M209 := Mem.lt_of_get g194
  have ltb31M209 := Mem.lt_of_get g195
  have ltb42M209 := Mem.lt_of_get g196
  have ltb54M209 := Mem.lt_of_get g197
  have ltb67M209 := Mem.lt_of_get g198
  have ltb81M209 := Mem.lt_of_get g199
  have ltb96M209 := Mem.lt_of_get g200
  have ltb112M209 := Mem.lt_of_get g201
  have ltb129M209 := Mem.lt_of_get g202
  have ltb147M209 := Mem.lt_of_get g203
  have ltb166M209 := Mem.lt_of_get g204
  have ltb186M209 := Mem.lt_of_get g190
  obtain ⟨w207, N208, M209, p210, l211, e212, E213, hM214, F215⟩ := call_fc (x := (x, 6)) hM192 con18 (⟨⟨_, _, rfl, rfl, rfl⟩, rfl⟩)
  have nx216 := E213.next
  have g217 := E213.old g193
  have g218 := E213.old g194
  have g219 := E213.old g195
  have g220 := E213.old g196
  have g221 := E213.old g197
  have g222 := E213.old g198
  have g223 := E213.old g199
  have g224 := E213.old g200
  have g225 := E213.old g201
  have g226 := E213.old g202
  have g227 := E213.old g203
  have g228 := E213.old g204
  have g229 := E213.old g190
  have ew207 : w207 = i64 5 := (show w207 = i64 (modI x 6) from F215).trans (by rw [hkk])
  subst ew207
  have X230 := X206.trans E213
  obtain ⟨R231, eR232⟩ : ∃ m : Mem, m = Mem.mk M209.blks M209.next M209.hide [] := ⟨_, rfl⟩
  have X233 : Ext (Mem.mk M.blks M.next M.hide []) R231 := by rw [eR232]; exact Ext.aside (X230)
  have lg234 : R231.log = [] := by rw [eR232]
  have nxR231 : R231.next = M209.next := by rw [eR232]
  have hM235 : MemOk R231 := by rw [eR232]; exact MemOk.log hM214
  have ltb12M209 : b12 < M209.next := by have h := Mem.lt_of_get g217; exact h
  have g236 : R231.get b12 = some ⟨[(i64 0), (i64 1), (i64 0), (i64 0), (i64 1), (i64 2), (i64 0), (i64 0)], 37, 4, 0, true⟩ := by rw [eR232]; exact g217
  have ltb21M209 : b21 < M209.next := by have h := Mem.lt_of_get g218; exact h
  have g237 : R231.get b21 = some ⟨[(i64 0), (i64 1), (i64 0), (i64 0), (i64 1), (i64 2), (i64 1), (i64 0)], 37, 4, 0, true⟩ := by rw [eR232]; exact g218
  have ltb31M209 : b31 < M209.next := by have h := Mem.lt_of_get g219; exact h
  have g238 : R231.get b31 = some ⟨[(i64 0), (i64 0), (i64 3), (i64 0)], 37, 4, 0, true⟩ := by rw [eR232]; exact g219
  have ltb42M209 : b42 < M209.next := by have h := Mem.lt_of_get g220; exact h
  have g239 : R231.get b42 = some ⟨[(i64 3), (i64 2), (i64 0), (i64 0), (i64 3), (i64 1), (i64 0), (i64 0), (i64 3), (i64 0), (i64 0), (i64 0), (i64 0), (i64 0), (i64 0), (i64 0)], 37, 4, 0, true⟩ := by rw [eR232]; exact g220
  have ltb54M209 : b54 < M209.next := by have h := Mem.lt_of_get g221; exact h
  have g240 : R231.get b54 = some ⟨[(i64 0), (i64 0), (i64 0), (i64 0), (i64 0), (i64 0), (i64 4), (i64 0)], 37, 4, 0, true⟩ := by rw [eR232]; exact g221
  have ltb67M209 : b67 < M209.next := by have h := Mem.lt_of_get g222; exact h
  have g241 : R231.get b67 = some ⟨[(i64 3), sln, (i64 3), (sli b12 0 2 3), (i64 3), (sli b21 0 2 3), (i64 2), (sli b31 0 1 2), (i64 4), (sli b42 0 4 5), (i64 2), (sli b54 0 2 3)], 26, 2, 0, true⟩ := by rw [eR232]; exact g222
  have ltb81M209 : b81 < M209.next := by have h := Mem.lt_of_get g223; exact h
  have g242 : R231.get b81 = some ⟨[(i64 0), (i64 1), (i64 2)], 3, 1, 0, true⟩ := by rw [eR232]; exact g223
  have ltb96M209 : b96 < M209.next := by have h := Mem.lt_of_get g224; exact h
  have g243 : R231.get b96 = some ⟨[(i64 0), (i64 2), (i64 1)], 3, 1, 0, true⟩ := by rw [eR232]; exact g224
  have ltb112M209 : b112 < M209.next := by have h := Mem.lt_of_get g225; exact h
  have g244 : R231.get b112 = some ⟨[(i64 0), (i64 2)], 3, 1, 0, true⟩ := by rw [eR232]; exact g225
  have ltb129M209 : b129 < M209.next := by have h := Mem.lt_of_get g226; exact h
  have g245 : R231.get b129 = some ⟨[(i64 1), (i64 0)], 3, 1, 0, true⟩ := by rw [eR232]; exact g226
  have ltb147M209 : b147 < M209.next := by have h := Mem.lt_of_get g227; exact h
  have g246 : R231.get b147 = some ⟨[(i64 1), (i64 2), (i64 0), (i64 3)], 3, 1, 0, true⟩ := by rw [eR232]; exact g227
  have ltb166M209 : b166 < M209.next := by have h := Mem.lt_of_get g228; exact h
  have g247 : R231.get b166 = some ⟨[(i64 1)], 3, 1, 0, true⟩ := by rw [eR232]; exact g228
  have ltb186M209 : b186 < M209.next := by have h := Mem.lt_of_get g229; exact h
  have g248 : R231.get b186 = some ⟨[(sli b81 0 3 4), (sli b96 0 3 4), (sli b112 0 2 3), (sli b129 0 2 3), (sli b147 0 4 5), (sli b166 0 1 2)], 22, 1, 0, true⟩ := by rw [eR232]; exact g229
  have ltb12M256 := Mem.lt_of_get g236
  have ltb21M256 := Mem.lt_of_get g237
  have ltb31M256 := Mem.lt_of_get g238
  have ltb42M256 := Mem.lt_of_get g239
  have ltb54M256 := Mem.lt_of_get g240
  have ltb67M256 := Mem.lt_of_get g241
  have ltb81M256 := Mem.lt_of_get g242
  have ltb96M256 := Mem.lt_of_get g243
  have ltb112M256 := Mem.lt_of_get g244
  have ltb129M256 := Mem.lt_of_get g245
  have ltb147M256 := Mem.lt_of_get g246
  have ltb166M256 := Mem.lt_of_get g247
  have ltb186M256 := Mem.lt_of_get g248
  obtain ⟨w254, N255, M256, p257, l258, e259, E260, hM261, F262⟩ := call_fc (x := (2, kn5)) hM235 con13 (⟨⟨_, rfl, _, rfl, GRowsAt.of_blk' g240 rfl rfl (fun r hr => by simp [kn5] at hr; rcases hr with rfl | rfl <;> rfl) (by decide)⟩, kc5⟩)
  have nx263 := E260.next
  have g264 := E260.old g236
  have g265 := E260.old g237
  have g266 := E260.old g238
  have g267 := E260.old g239
  have g268 := E260.old g240
  have g269 := E260.old g241
  have g270 := E260.old g242
  have g271 := E260.old g243
  have g272 := E260.old g244
  have g273 := E260.old g245
  have g274 := E260.old g246
  have g275 := E260.old g247
  have g276 := E260.old g248
  have G253 : pInts (orderL 2 kn5) w254 (hidx [(0, R231.next)] M256) := hx_of F262
  rw [ko5] at G253
  obtain ⟨a249, c250, ew254⟩ := GRowsAt.form G253
  subst ew254
  obtain ⟨b251, o252, ea249, _⟩ := form_pos G253 (by decide)
  subst ea249
  have lg277 : M256.log = [] := by rw [← e259]; exact lg234
  have X278 := X233.trans E260
  have ltb12M286 := Mem.lt_of_get g264
  have ltb21M286 := Mem.lt_of_get g265
  have ltb31M286 := Mem.lt_of_get g266
  have ltb42M286 := Mem.lt_of_get g267
  have ltb54M286 := Mem.lt_of_get g268
  have ltb67M286 := Mem.lt_of_get g269
  have ltb81M286 := Mem.lt_of_get g270
  have ltb96M286 := Mem.lt_of_get g271
  have ltb112M286 := Mem.lt_of_get g272
  have ltb129M286 := Mem.lt_of_get g273
  have ltb147M286 := Mem.lt_of_get g274
  have ltb166M286 := Mem.lt_of_get g275
  have ltb186M286 := Mem.lt_of_get g276
  obtain ⟨w284, N285, M286, p287, l288, e289, E290, hM291, F292⟩ := call_fc (x := (2, kn5)) hM261 con10 (⟨⟨_, rfl, _, rfl, GRowsAt.of_blk' g268 rfl rfl (fun r hr => by simp [kn5] at hr; rcases hr with rfl | rfl <;> rfl) (by decide)⟩, kc5⟩)
  have nx293 := E290.next
  have F294 := hx_ext (R := pInts) G253 E290
  have g295 := E290.old g264
  have g296 := E290.old g265
  have g297 := E290.old g266
  have g298 := E290.old g267
  have g299 := E290.old g268
  have g300 := E290.old g269
  have g301 := E290.old g270
  have g302 := E290.old g271
  have g303 := E290.old g272
  have g304 := E290.old g273
  have g305 := E290.old g274
  have g306 := E290.old g275
  have g307 := E290.old g276
  have G283 : pBools (linksL (adjM 2 kn5) 2) w284 (hidx [(0, M256.next)] M286) := hx_of F292
  rw [kl5] at G283
  obtain ⟨a279, c280, ew284⟩ := GRowsAt.form G283
  subst ew284
  obtain ⟨b281, o282, ea279, _⟩ := form_pos G283 (by decide)
  subst ea279
  have lg308 : M286.log = [] := by rw [← e289]; exact lg277
  have X309 := X278.trans E290
  obtain ⟨M310, ef311⟩ : ∃ m : Mem, m = (Mem.mk M286.blks M286.next M286.hide (M286.log ++ M209.log)) := ⟨_, rfl⟩
  have X312 : Ext M M310 := by rw [ef311]; exact Ext.join (X230) (X309)
  have hM313 : MemOk M310 := by rw [ef311]; exact hM291
  have g314 : M310.get b12 = some ⟨[(i64 0), (i64 1), (i64 0), (i64 0), (i64 1), (i64 2), (i64 0), (i64 0)], 37, 4, 0, true⟩ := by rw [ef311]; exact g295
  have g315 : M310.get b21 = some ⟨[(i64 0), (i64 1), (i64 0), (i64 0), (i64 1), (i64 2), (i64 1), (i64 0)], 37, 4, 0, true⟩ := by rw [ef311]; exact g296
  have g316 : M310.get b31 = some ⟨[(i64 0), (i64 0), (i64 3), (i64 0)], 37, 4, 0, true⟩ := by rw [ef311]; exact g297
  have g317 : M310.get b42 = some ⟨[(i64 3), (i64 2), (i64 0), (i64 0), (i64 3), (i64 1), (i64 0), (i64 0), (i64 3), (i64 0), (i64 0), (i64 0), (i64 0), (i64 0), (i64 0), (i64 0)], 37, 4, 0, true⟩ := by rw [ef311]; exact g298
  have g318 : M310.get b54 = some ⟨[(i64 0), (i64 0), (i64 0), (i64 0), (i64 0), (i64 0), (i64 4), (i64 0)], 37, 4, 0, true⟩ := by rw [ef311]; exact g299
  have g319 : M310.get b67 = some ⟨[(i64 3), sln, (i64 3), (sli b12 0 2 3), (i64 3), (sli b21 0 2 3), (i64 2), (sli b31 0 1 2), (i64 4), (sli b42 0 4 5), (i64 2), (sli b54 0 2 3)], 26, 2, 0, true⟩ := by rw [ef311]; exact g300
  have g320 : M310.get b81 = some ⟨[(i64 0), (i64 1), (i64 2)], 3, 1, 0, true⟩ := by rw [ef311]; exact g301
  have g321 : M310.get b96 = some ⟨[(i64 0), (i64 2), (i64 1)], 3, 1, 0, true⟩ := by rw [ef311]; exact g302
  have g322 : M310.get b112 = some ⟨[(i64 0), (i64 2)], 3, 1, 0, true⟩ := by rw [ef311]; exact g303
  have g323 : M310.get b129 = some ⟨[(i64 1), (i64 0)], 3, 1, 0, true⟩ := by rw [ef311]; exact g304
  have g324 : M310.get b147 = some ⟨[(i64 1), (i64 2), (i64 0), (i64 3)], 3, 1, 0, true⟩ := by rw [ef311]; exact g305
  have g325 : M310.get b166 = some ⟨[(i64 1)], 3, 1, 0, true⟩ := by rw [ef311]; exact g306
  have g326 : M310.get b186 = some ⟨[(sli b81 0 3 4), (sli b96 0 3 4), (sli b112 0 2 3), (sli b129 0 2 3), (sli b147 0 4 5), (sli b166 0 1 2)], 22, 1, 0, true⟩ := by rw [ef311]; exact g307
  have F327 := hx_still (R := pInts) (M' := M310) F294 (fun id b h => by rw [ef311]; exact h)
  have F328 := hx_still (R := pBools) (M' := M310) G283 (fun id b h => by rw [ef311]; exact h)
  have ltb12M331 := Mem.lt_of_get g314
  have ltb21M331 := Mem.lt_of_get g315
  have ltb31M331 := Mem.lt_of_get g316
  have ltb42M331 := Mem.lt_of_get g317
  have ltb54M331 := Mem.lt_of_get g318
  have ltb67M331 := Mem.lt_of_get g319
  have ltb81M331 := Mem.lt_of_get g320
  have ltb96M331 := Mem.lt_of_get g321
  have ltb112M331 := Mem.lt_of_get g322
  have ltb129M331 := Mem.lt_of_get g323
  have ltb147M331 := Mem.lt_of_get g324
  have ltb166M331 := Mem.lt_of_get g325
  have ltb186M331 := Mem.lt_of_get g326
  obtain ⟨w329, N330, M331, p332, l333, e334, E335, hM336, F337⟩ := call_fc (x := (([1] : List Int), ([1] : List Int))) hM313 con12 (⟨_, _, rfl, hx_out (R := pInts) F327, GRowsAt.of_blk' g325 rfl rfl (fun _ _ => rfl) (by decide)⟩)
  have nx338 := E335.next
  have g346 := E335.old g319
  have g353 := E335.old g326
  have ew329 : w329 = (.bool true) := by have h0 : w329 = .bool (decide (([1] : List Int) = [1])) := F337; rw [h0]; rfl
  subst ew329
  have X354 := X312.trans E335
  have hraw := w6_5_raw x M  M3 b12 M13 b21 M22 b31 M32 b42 M43 b54 M55 b67 M68 b81 M82 b96 M97 b112 M113 b129 M130 b147 M148 b166 M167 b186 M187 M209 b251 o252 c250 M256 b281 o282 c280 M286 M331
  have rw0 : Mem.mk M209.blks M209.next M209.hide [] = R231 := eR232.symm
  have rw1 : Mem.mk M256.blks M256.next M209.hide M256.log = M256 := by rw [(show M209.hide = M256.hide from ((X230).hide.trans (X278).hide.symm))]
  have rw2 : Mem.mk M256.blks M256.next (hides 224 [⟨4, 1, M209.next, M256.next⟩, ⟨3, 1, M209.next, M209.next⟩] ++ M209.hide) M256.log = hidx (hides 224 [⟨4, 1, M209.next, M256.next⟩, ⟨3, 1, M209.next, M209.next⟩]) M256 := by rw [(show M209.hide = M256.hide from ((X230).hide.trans (X278).hide.symm))]; rfl
  have rw3 : Mem.mk M286.blks M286.next M209.hide M286.log = M286 := by rw [(show M209.hide = M286.hide from ((X230).hide.trans (X309).hide.symm))]
  have rw4 : (Mem.mk M286.blks M286.next M209.hide (M286.log ++ M209.log)) = (Mem.mk M286.blks M286.next M286.hide (M286.log ++ M209.log)) := by rw [(show M209.hide = M286.hide from ((X230).hide.trans (X309).hide.symm))]
  have rw5 : (Mem.mk M286.blks M286.next M286.hide (M286.log ++ M209.log)) = M310 := ef311.symm
  try rw [rw0] at hraw
  try rw [rw1] at hraw
  try rw [rw2] at hraw
  try rw [rw3] at hraw
  try rw [rw4] at hraw
  try rw [rw5] at hraw
  exact ⟨(.bool true), M331, Ev.told_tmp noNumP mixedP Try.func6 q6_ok (by kernel_rfl) rK6 (fun B => specsB_ok (k := []) (hS6_8_10_12_13_18 B) (fun p hp => by cases hp)) (fun _ _ => rfl) hraw (hk (q_call rfl p4 l5 e6) (hk (q_eq (by rw [← eb14, ← em15]; kernel_rfl) Nat.one_ne_zero) (hk (q_eq (by rw [← eb23, ← em24]; kernel_rfl) Nat.one_ne_zero) (hk (q_eq (by rw [← eb33, ← em34]; kernel_rfl) Nat.one_ne_zero) (hk (q_eq (by rw [← eb44, ← em45]; kernel_rfl) Nat.one_ne_zero) (hk (q_eq (by rw [← eb56, ← em57]; kernel_rfl) Nat.one_ne_zero) (hk (q_eq (by rw [← eb69, ← em70]; kernel_rfl) Nat.one_ne_zero) (hk (q_eq (by rw [← eb83, ← em84]; kernel_rfl) Nat.one_ne_zero) (hk (q_eq (by rw [← eb98, ← em99]; kernel_rfl) Nat.one_ne_zero) (hk (q_eq (by rw [← eb114, ← em115]; kernel_rfl) Nat.one_ne_zero) (hk (q_eq (by rw [← eb131, ← em132]; kernel_rfl) Nat.one_ne_zero) (hk (q_eq (by rw [← eb149, ← em150]; kernel_rfl) Nat.one_ne_zero) (hk (q_eq (by rw [← eb168, ← em169]; kernel_rfl) Nat.one_ne_zero) (hk (q_eq (by rw [← eb188, ← em189]; kernel_rfl) Nat.one_ne_zero) (hk (q_call rfl p210 l211 e212) (hk (lA ⟨dA26, dS26⟩ g241 rfl) (hk (q_call rfl p257 l258 e259) (hk (lA ⟨dA26, dS26⟩ (hidx_get.2 ⟨hides_low (by simp; omega), g269⟩) rfl) (hk (q_lt ltb67M209) (hk (q_call rfl p287 l288 e289) (hk (q_apart (by rw [lg308]; simp <;> omega)) (hk (q_ld (by have := ld_one (P := Try.prog) (ty := 4) (i := 0) (hx_out (R := pBools) F328) rfl rfl dC4; simpa using this)) (hk (q_ld (by have := ld_one (P := Try.prog) (ty := 4) (i := 1) (hx_out (R := pBools) F328) rfl rfl dC4; simpa using this)) (hk (lC dC22 g326 rfl) (hk (q_call rfl p332 l333 e334) (hk (lC dC3 g346 rfl) (hk (lC dC22 g353 rfl) (hk (lC dC3 g346 rfl) hn)))))))))))))))))))))))))))), X354, hM336, rfl⟩
end Go.Proofs.Ytfeabmmgmbddnaa
