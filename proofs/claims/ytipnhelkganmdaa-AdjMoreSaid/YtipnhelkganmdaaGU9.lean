/-
  Package adj: each of its laws for every argument; no conditions. The last text states which.
-/
import Derived.Test.YtipnhelkganmdaaGU1
import Derived.Test.YtipnhelkganmdaaGAmOwn
import Derived.Test.YtipnhelkganmdaaGAmMk
import Derived.Deep.DeepHandedRow
import Derived.OpenShut
import Derived.ProofKit
import Derived.Test.YtipnhelkganmdaaRows
import Derived.Test.YtipnhelkganmdaaChecked
set_option linter.unusedVariables false
set_option linter.unusedSimpArgs false
open Go Go.Am Go.Proofs
namespace Go.Proofs.Ytipnhelkganmdaa
set_option maxRecDepth 100000
set_option linter.unusedVariables false
set_option linter.unusedSimpArgs false
theorem hx_own {α : Type} {R : α → Value → Mem → Prop} [AP R] {y : α} {v : Value} {H : List (Nat × Nat)} {M M' : Mem} {n' : Nat} (h : R y v (hidx H M)) (hk : ∀ id b, ¬ hidden H id = true → M.get id = some b → M'.get id = some b) : R y v (hidx ((M.next, n') :: H) M') :=
  AP.ext (fun id b hg => by
    rw [hidx_get] at hg ⊢
    exact ⟨hidden_con.2 ⟨fun hx => by have := Mem.lt_of_get hg.2; omega, hg.1⟩, hk id b hg.1 hg.2⟩) h
theorem hS9_13_14_18_20 (B : Bd) : ∀ p ∈ ([(13, pick (Con Try.prog [] 13 Q13)), (14, pick (Con Try.prog [] 14 Q14)), (18, pick (Con Try.prog [] 18 Q18)), (20, pick (Con Try.prog [] 20 Q20))] : List (FuncId × (List Value → Mem → Option (Value × Mem)))), SpecOk Try.prog [] B p.1 p.2 := (fun p hp => by simp only [List.mem_cons, List.not_mem_nil, or_false] at hp; rcases hp with rfl | rfl | rfl | rfl <;> first | exact Con.ok _ | exact TC.ok _)
theorem r9tt_raw (q p ab bb mb mo mk mc n i : Nat) (VE : Value) (l : List E4) (e : E4) (M : Mem) (b1 : Nat) (M2 : Mem) (a12 : Option Addr) (c13 : Nat) (M17 : Mem) (t29 : Bool) (b30 : Nat) (c31 : Nat) (M32 : Mem) (b47 : Nat) (M48 : Mem) (a59 : Option Addr) (c60 : Nat) (M64 : Mem) (t77 : Bool) (b78 : Nat) (c79 : Nat) (M80 : Mem) (b96 : Nat) (M97 : Mem) (t109 : Bool) (b110 : Nat) (c111 : Nat) (M112 : Mem) (b129 : Nat) (M130 : Mem) (t143 : Bool) (b144 : Nat) (c145 : Nat) (M146 : Mem) (a164 : Option Addr) (c165 : Nat) (M169 : Mem) (M186 : Mem) (a202 : Option Addr) (c203 : Nat) (M207 : Mem) (M225 : Mem) (M244 : Mem) (M263 : Mem) : oR Try.prog [] 140 Try.f9 (q9.loopAt 0) [(11, (pt q 0)), (12, (pt p 0)), (13, (pt ab 0)), (14, (pt bb 0)), (15, (i64 (((l.length : Nat) : Int)))), (16, (i64 (((i : Nat) : Int))))] M [ttL 5 (i64 (((n : Nat) : Int))), ttT 8, ttV 10 (sli b1 0 0 1) M2, ttV 16 (.slice a12 (refRow .fr l ((i : Nat) : Int) l.length).length c13) M17, .at 18 ((bif t29 then 1 else 2), .val (sli b30 0 ((0 + (refRow .fr l ((i : Nat) : Int) l.length).length)) c31), M32), ttV 20 (sli b47 0 0 1) M48, ttV 26 (.slice a59 (refRow .to l ((i : Nat) : Int) l.length).length c60) M64, .at 28 ((bif t77 then 1 else 2), .val (sli b78 0 ((0 + (refRow .to l ((i : Nat) : Int) l.length).length)) c79), M80), ttL 38 (sli mb mo mk mc), ttT 42, ttL 46 (i64 e.f), ttT 49, ttV 55 (sli b96 0 1 2) M97, .at 57 ((bif t109 then 1 else 2), .val (sli b110 0 (((0 + (refRow .fr l ((i : Nat) : Int) l.length).length) + [((l.length : Nat) : Int)].length)) c111), M112), ttL 65 (sli mb mo mk mc), ttT 69, ttL 73 (i64 e.t), ttT 76, ttV 82 (sli b129 0 1 2) M130, .at 84 ((bif t143 then 1 else 2), .val (sli b144 0 (((0 + (refRow .to l ((i : Nat) : Int) l.length).length) + [((l.length : Nat) : Int)].length)) c145), M146), ttV 92 (.slice a164 ((refRow .fr l ((i : Nat) : Int) l.length) ++ [((l.length : Nat) : Int)]).length c165) M169, ttV 96 (.bool true) M186, ttV 106 (.slice a202 ((refRow .to l ((i : Nat) : Int) l.length) ++ [((l.length : Nat) : Int)]).length c203) M207, ttV 110 (.bool true) M225, ttV 122 (i64 (modesI (adjM n l) ((i : Nat) : Int))) M244, ttV 128 (i64 (modesI (adjM n (l ++ [e])) ((i : Nat) : Int))) M263, ttF 135] [11, 12, 13, 14, 15, 16] = some (.normal, [some (pt q 0), some (pt p 0), some (pt ab 0), some (pt bb 0), some (i64 (((l.length : Nat) : Int))), some (i64 (IntKind.wrap .i64 ((((i : Nat) : Int)) + (1 : Int))))], M263, [qL 3 q 0 M (i64 (((n : Nat) : Int))), qT (decide ((((i : Nat) : Int)) < (((n : Nat) : Int)))), .eq (abuildSlice Try.prog 22 0 [] M) (1, .val (sli b1 0 0 1), M2), qC 13 [(pt ab 0), (i64 (((i : Nat) : Int)))] M2 (.slice a12 (refRow .fr l ((i : Nat) : Int) l.length).length c13) M17, .q (.append [22, 22] (sli b1 0 0 1) (.slice a12 (refRow .fr l ((i : Nat) : Int) l.length).length c13) M17) ((bif t29 then 1 else 2), .val (sli b30 0 ((0 + (refRow .fr l ((i : Nat) : Int) l.length).length)) c31), M32), .eq (abuildSlice Try.prog 22 0 [] M32) (1, .val (sli b47 0 0 1), M48), qC 14 [(pt ab 0), (i64 (((i : Nat) : Int)))] M48 (.slice a59 (refRow .to l ((i : Nat) : Int) l.length).length c60) M64, .q (.append [22, 22] (sli b47 0 0 1) (.slice a59 (refRow .to l ((i : Nat) : Int) l.length).length c60) M64) ((bif t77 then 1 else 2), .val (sli b78 0 ((0 + (refRow .to l ((i : Nat) : Int) l.length).length)) c79), M80), qL 24 p 1 M80 (sli mb mo mk mc), .q (.inb (((l.length : Nat) : Int)) mk) (ansB true), qL 3 mb (mo + (((l.length : Nat) : Int) : Int).toNat * 4) M80 (i64 e.f), qT ((((i : Nat) : Int)) == e.f), .eq (abuildSlice Try.prog 22 1 [(0, (i64 (((l.length : Nat) : Int))))] M80) (1, .val (sli b96 0 1 2), M97), .q (.append [22, 22] (sli b30 0 ((0 + (refRow .fr l ((i : Nat) : Int) l.length).length)) c31) (sli b96 0 1 2) M97) ((bif t109 then 1 else 2), .val (sli b110 0 (((0 + (refRow .fr l ((i : Nat) : Int) l.length).length) + [((l.length : Nat) : Int)].length)) c111), M112), qL 24 p 1 M112 (sli mb mo mk mc), .q (.inb (((l.length : Nat) : Int)) mk) (ansB true), qL 3 mb (mo + (((l.length : Nat) : Int) : Int).toNat * 4 + 1) M112 (i64 e.t), qT ((((i : Nat) : Int)) == e.t), .eq (abuildSlice Try.prog 22 1 [(0, (i64 (((l.length : Nat) : Int))))] M112) (1, .val (sli b129 0 1 2), M130), .q (.append [22, 22] (sli b78 0 ((0 + (refRow .to l ((i : Nat) : Int) l.length).length)) c79) (sli b129 0 1 2) M130) ((bif t143 then 1 else 2), .val (sli b144 0 (((0 + (refRow .to l ((i : Nat) : Int) l.length).length) + [((l.length : Nat) : Int)].length)) c145), M146), qC 13 [(pt bb 0), (i64 (((i : Nat) : Int)))] M146 (.slice a164 ((refRow .fr l ((i : Nat) : Int) l.length) ++ [((l.length : Nat) : Int)]).length c165) M169, qC 20 [(.slice a164 ((refRow .fr l ((i : Nat) : Int) l.length) ++ [((l.length : Nat) : Int)]).length c165), (sli b110 0 (((0 + (refRow .fr l ((i : Nat) : Int) l.length).length) + [((l.length : Nat) : Int)].length)) c111)] M169 (.bool true) M186, qC 14 [(pt bb 0), (i64 (((i : Nat) : Int)))] M186 (.slice a202 ((refRow .to l ((i : Nat) : Int) l.length) ++ [((l.length : Nat) : Int)]).length c203) M207, qC 20 [(.slice a202 ((refRow .to l ((i : Nat) : Int) l.length) ++ [((l.length : Nat) : Int)]).length c203), (sli b144 0 (((0 + (refRow .to l ((i : Nat) : Int) l.length).length) + [((l.length : Nat) : Int)].length)) c145)] M207 (.bool true) M225, qC 18 [(pt ab 0), (i64 (((i : Nat) : Int)))] M225 (i64 (modesI (adjM n l) ((i : Nat) : Int))) M244, qC 18 [(pt bb 0), (i64 (((i : Nat) : Int)))] M244 (i64 (modesI (adjM n (l ++ [e])) ((i : Nat) : Int))) M263, qF (!((anI (modesI (adjM n l) ((i : Nat) : Int)) (modesI (adjM n (l ++ [e])) ((i : Nat) : Int))) == (0 : Int)))]) := by cases t29 <;> cases t77 <;> cases t109 <;> cases t143 <;> kernel_rfl
theorem r9tt (q p ab bb mb mo mk mc n i : Nat) (VE : Value) (l : List E4) (e : E4) {M M0 : Mem} (hM : MemOk M) (X0 : Ext M0 M) (gq : M.get q = some ⟨[i64 ((n : Nat) : Int), VE], 26, 2, 0, true⟩) (gp : M.get p = some ⟨[i64 ((n : Nat) : Int), (sli mb mo mk mc)], 26, 2, 0, true⟩) (hA_ : pAdj 48 (adjM n l) (pt ab 0) M0) (hB_ : pAdj 48 (adjM n (l ++ [e])) (pt bb 0) M0) (hckA : chkN ((n : Nat) : Int) l = true) (hckB : chkN ((n : Nat) : Int) (l ++ [e]) = true) (hl400 : l.length ≤ 400) (dpq : q ≠ p) (cc0 : (decide ((((i : Nat) : Int)) < (((n : Nat) : Int)))) = true) (cc1 : ((((i : Nat) : Int)) == e.f) = true) (cc2 : ((((i : Nat) : Int)) == e.t) = true) (cc3 : ((anI (modesI (adjM n l) ((i : Nat) : Int)) (modesI (adjM n (l ++ [e])) ((i : Nat) : Int))) == (0 : Int)) = true) (hi0 : 0 ≤ (((l.length : Nat) : Int) : Int) ∧ (((l.length : Nat) : Int) : Int) < mk) (hld1 : aload Try.prog 3 ⟨mb, mo + (((l.length : Nat) : Int) : Int).toNat * 4, none⟩ M0 = some (i64 e.f)) (hld2 : aload Try.prog 3 ⟨mb, mo + (((l.length : Nat) : Int) : Int).toNat * 4 + 1, none⟩ M0 = some (i64 e.t)) : ∃ T1 M', Rd Try.prog [] (q9.loopAt 0) Try.f9.ntmps (fr [(11, (pt q 0)), (12, (pt p 0)), (13, (pt ab 0)), (14, (pt bb 0)), (15, (i64 (((l.length : Nat) : Int)))), (16, (i64 (((i : Nat) : Int))))]) M .normal T1 M' ∧ [11, 12, 13, 14, 15, 16].map T1.get = [some (pt q 0), some (pt p 0), some (pt ab 0), some (pt bb 0), some (i64 (((l.length : Nat) : Int))), some (i64 (IntKind.wrap .i64 ((((i : Nat) : Int)) + (1 : Int))))] ∧ Ext M0 M' ∧ MemOk M' ∧ M'.get q = some ⟨[(i64 (((n : Nat) : Int))), VE], 26, 2, 0, true⟩ ∧ M'.get p = some ⟨[(i64 (((n : Nat) : Int))), (sli mb mo mk mc)], 26, 2, 0, true⟩ := by
  obtain ⟨b1, M2, eb3, em4, g5, E6, hM7⟩ := new_t hM ⟨[], 3, 1, 0, true⟩
  have nb1 : M0.next ≤ b1 := by rw [← eb3]; exact X0.next
  have dqb1 : q ≠ b1 := by have := Mem.lt_of_get gq; omega
  have dpb1 : p ≠ b1 := by have := Mem.lt_of_get gp; omega
  have g8 := E6.old gq
  have g9 := E6.old gp
  have nx10 := E6.next
  have X11 := X0.trans E6
  obtain ⟨w15, N16, M17, p18, l19, e20, E21, hM22, F23⟩ := call_fc (x := ((adjM n l), ((i : Nat) : Int))) hM7 con13 (⟨⟨_, _, rfl, AP.Ext (R := (pAdj 48)) hA_ X11, rfl⟩, okA_adjM hckA⟩)
  have nx24 := E21.next
  have g25 := E21.old g8
  have g26 := E21.old g9
  have g27 := E21.old g5
  have G14 : pInts (refRow .fr l ((i : Nat) : Int) l.length) w15 M17 := by rw [← out_eq hckA ⟨by omega, by simp at cc0; omega⟩]; exact newR.out (R := pInts) F23
  obtain ⟨a12, c13, ew15⟩ := GRowsAt.form G14
  subst ew15
  have X28 := X11.trans E21
  obtain ⟨t29, b30, c31, M32, q33, X34, hM35, nb30, g36, hs37, hl38, kp39, fr40, t41, t42, nx43, lg44⟩ := own_app (P := Try.prog) (sT := 22) (xT := 22) (y := 8) (w := 1) (n := 0) (c := 1) (cs := ([] : List Value)) X28 (.inl ⟨rfl, rfl, rfl⟩) rfl nb1 g27 hM22 (by kernel_rfl) (by kernel_rfl) (by kernel_rfl) (by kernel_rfl) (by decide) (by decide) rfl G14 (by have := refRow_len .fr l ((i : Nat) : Int) l.length; omega) (fun _ _ => rfl)
  have g45 := kp39 _ _ g25 dqb1
  have dqb30 : q ≠ b30 := (fr40).elim (fun hh => by rw [hh]; exact dqb1) (fun hh => by have := Mem.lt_of_get g25; omega)
  have g46 := kp39 _ _ g26 dpb1
  have dpb30 : p ≠ b30 := (fr40).elim (fun hh => by rw [hh]; exact dpb1) (fun hh => by have := Mem.lt_of_get g26; omega)
  obtain ⟨b47, M48, eb49, em50, g51, E52, hM53⟩ := new_t hM35 ⟨[], 3, 1, 0, true⟩
  have nb47 : M0.next ≤ b47 := by rw [← eb49]; exact X34.next
  have dqb47 : q ≠ b47 := by have := Mem.lt_of_get g45; omega
  have dpb47 : p ≠ b47 := by have := Mem.lt_of_get g46; omega
  have db30b47 : b30 ≠ b47 := by have := Mem.lt_of_get g36; omega
  have g54 := E52.old g45
  have g55 := E52.old g46
  have g56 := E52.old g36
  have nx57 := E52.next
  have X58 := X34.trans E52
  obtain ⟨w62, N63, M64, p65, l66, e67, E68, hM69, F70⟩ := call_fc (x := ((adjM n l), ((i : Nat) : Int))) hM53 con14 (⟨⟨_, _, rfl, AP.Ext (R := (pAdj 48)) hA_ X58, rfl⟩, okA_adjM hckA⟩)
  have nx71 := E68.next
  have g72 := E68.old g54
  have g73 := E68.old g55
  have g74 := E68.old g56
  have g75 := E68.old g51
  have G61 : pInts (refRow .to l ((i : Nat) : Int) l.length) w62 M64 := by rw [← in_eq hckA ⟨by omega, by simp at cc0; omega⟩]; exact newR.out (R := pInts) F70
  obtain ⟨a59, c60, ew62⟩ := GRowsAt.form G61
  subst ew62
  have X76 := X58.trans E68
  obtain ⟨t77, b78, c79, M80, q81, X82, hM83, nb78, g84, hs85, hl86, kp87, fr88, t89, t90, nx91, lg92⟩ := own_app (P := Try.prog) (sT := 22) (xT := 22) (y := 8) (w := 1) (n := 0) (c := 1) (cs := ([] : List Value)) X76 (.inl ⟨rfl, rfl, rfl⟩) rfl nb47 g75 hM69 (by kernel_rfl) (by kernel_rfl) (by kernel_rfl) (by kernel_rfl) (by decide) (by decide) rfl G61 (by have := refRow_len .to l ((i : Nat) : Int) l.length; omega) (fun _ _ => rfl)
  have g93 := kp87 _ _ g72 dqb47
  have dqb78 : q ≠ b78 := (fr88).elim (fun hh => by rw [hh]; exact dqb47) (fun hh => by have := Mem.lt_of_get g72; omega)
  have g94 := kp87 _ _ g73 dpb47
  have dpb78 : p ≠ b78 := (fr88).elim (fun hh => by rw [hh]; exact dpb47) (fun hh => by have := Mem.lt_of_get g73; omega)
  have g95 := kp87 _ _ g74 db30b47
  have db30b78 : b30 ≠ b78 := (fr88).elim (fun hh => by rw [hh]; exact db30b47) (fun hh => by have := Mem.lt_of_get g74; omega)
  obtain ⟨b96, M97, eb98, em99, g100, E101, hM102⟩ := new_t hM83 ⟨[(i64 (((l.length : Nat) : Int)))], 3, 1, 0, true⟩
  have nb96 : M0.next ≤ b96 := by rw [← eb98]; exact X82.next
  have dqb96 : q ≠ b96 := by have := Mem.lt_of_get g93; omega
  have dpb96 : p ≠ b96 := by have := Mem.lt_of_get g94; omega
  have db30b96 : b30 ≠ b96 := by have := Mem.lt_of_get g95; omega
  have db78b96 : b78 ≠ b96 := by have := Mem.lt_of_get g84; omega
  have g103 := E101.old g93
  have g104 := E101.old g94
  have g105 := E101.old g95
  have g106 := E101.old g84
  have nx107 := E101.next
  have X108 := X82.trans E101
  obtain ⟨t109, b110, c111, M112, q113, X114, hM115, nb110, g116, hs117, hl118, kp119, fr120, t121, t122, nx123, lg124⟩ := own_app (P := Try.prog) (sT := 22) (xT := 22) (y := 8) (w := 1) (n := (0 + (refRow .fr l ((i : Nat) : Int) l.length).length)) (c := c31) (cs := (([] : List Value) ++ ((refRow .fr l ((i : Nat) : Int) l.length).map iRow).flatten)) X108 hs37 hl38 nb30 g105 hM102 (by kernel_rfl) (by kernel_rfl) (by kernel_rfl) (by kernel_rfl) (by decide) (by decide) rfl (own_rows (g := iRow) (c := 2) (l := [((l.length : Nat) : Int)]) g100 rfl (fun _ _ => rfl) (by simp)) (by have h1 := refRow_len .fr l ((i : Nat) : Int) l.length; have h2 := refRow_len .to l ((i : Nat) : Int) l.length; simp only [List.length_singleton]; omega) (fun _ _ => rfl)
  have g125 := kp119 _ _ g103 dqb30
  have dqb110 : q ≠ b110 := (fr120).elim (fun hh => by rw [hh]; exact dqb30) (fun hh => by have := Mem.lt_of_get g103; omega)
  have g126 := kp119 _ _ g104 dpb30
  have dpb110 : p ≠ b110 := (fr120).elim (fun hh => by rw [hh]; exact dpb30) (fun hh => by have := Mem.lt_of_get g104; omega)
  have g127 := kp119 _ _ g106 (Ne.symm db30b78)
  have db78b110 : b78 ≠ b110 := (fr120).elim (fun hh => by rw [hh]; exact (Ne.symm db30b78)) (fun hh => by have := Mem.lt_of_get g106; omega)
  have g128 := kp119 _ _ g100 (Ne.symm db30b96)
  have db96b110 : b96 ≠ b110 := (fr120).elim (fun hh => by rw [hh]; exact (Ne.symm db30b96)) (fun hh => by have := Mem.lt_of_get g100; omega)
  obtain ⟨b129, M130, eb131, em132, g133, E134, hM135⟩ := new_t hM115 ⟨[(i64 (((l.length : Nat) : Int)))], 3, 1, 0, true⟩
  have nb129 : M0.next ≤ b129 := by rw [← eb131]; exact X114.next
  have dqb129 : q ≠ b129 := by have := Mem.lt_of_get g125; omega
  have dpb129 : p ≠ b129 := by have := Mem.lt_of_get g126; omega
  have db78b129 : b78 ≠ b129 := by have := Mem.lt_of_get g127; omega
  have db96b129 : b96 ≠ b129 := by have := Mem.lt_of_get g128; omega
  have db110b129 : b110 ≠ b129 := by have := Mem.lt_of_get g116; omega
  have g136 := E134.old g125
  have g137 := E134.old g126
  have g138 := E134.old g127
  have g139 := E134.old g128
  have g140 := E134.old g116
  have nx141 := E134.next
  have X142 := X114.trans E134
  obtain ⟨t143, b144, c145, M146, q147, X148, hM149, nb144, g150, hs151, hl152, kp153, fr154, t155, t156, nx157, lg158⟩ := own_app (P := Try.prog) (sT := 22) (xT := 22) (y := 8) (w := 1) (n := (0 + (refRow .to l ((i : Nat) : Int) l.length).length)) (c := c79) (cs := (([] : List Value) ++ ((refRow .to l ((i : Nat) : Int) l.length).map iRow).flatten)) X142 hs85 hl86 nb78 g138 hM135 (by kernel_rfl) (by kernel_rfl) (by kernel_rfl) (by kernel_rfl) (by decide) (by decide) rfl (own_rows (g := iRow) (c := 2) (l := [((l.length : Nat) : Int)]) g133 rfl (fun _ _ => rfl) (by simp)) (by have h1 := refRow_len .fr l ((i : Nat) : Int) l.length; have h2 := refRow_len .to l ((i : Nat) : Int) l.length; simp only [List.length_singleton]; omega) (fun _ _ => rfl)
  have g159 := kp153 _ _ g136 dqb78
  have dqb144 : q ≠ b144 := (fr154).elim (fun hh => by rw [hh]; exact dqb78) (fun hh => by have := Mem.lt_of_get g136; omega)
  have g160 := kp153 _ _ g137 dpb78
  have dpb144 : p ≠ b144 := (fr154).elim (fun hh => by rw [hh]; exact dpb78) (fun hh => by have := Mem.lt_of_get g137; omega)
  have g161 := kp153 _ _ g139 (Ne.symm db78b96)
  have db96b144 : b96 ≠ b144 := (fr154).elim (fun hh => by rw [hh]; exact (Ne.symm db78b96)) (fun hh => by have := Mem.lt_of_get g139; omega)
  have g162 := kp153 _ _ g140 (Ne.symm db78b110)
  have db110b144 : b110 ≠ b144 := (fr154).elim (fun hh => by rw [hh]; exact (Ne.symm db78b110)) (fun hh => by have := Mem.lt_of_get g140; omega)
  have g163 := kp153 _ _ g133 (Ne.symm db78b129)
  have db129b144 : b129 ≠ b144 := (fr154).elim (fun hh => by rw [hh]; exact (Ne.symm db78b129)) (fun hh => by have := Mem.lt_of_get g133; omega)
  obtain ⟨w167, N168, M169, p170, l171, e172, E173, hM174, F175⟩ := call_fc (x := ((adjM n (l ++ [e])), ((i : Nat) : Int))) hM149 con13 (⟨⟨_, _, rfl, AP.Ext (R := (pAdj 48)) hB_ X148, rfl⟩, okA_adjM hckB⟩)
  have nx176 := E173.next
  have g177 := E173.old g159
  have g178 := E173.old g160
  have g179 := E173.old g161
  have g180 := E173.old g162
  have g181 := E173.old g163
  have g182 := E173.old g150
  have G166 : pInts ((refRow .fr l ((i : Nat) : Int) l.length) ++ [((l.length : Nat) : Int)]) w167 M169 := by rw [show ((refRow .fr l ((i : Nat) : Int) l.length) ++ [((l.length : Nat) : Int)]) = refRow .fr (l ++ [e]) ((i : Nat) : Int) (l ++ [e]).length from by rw [more_row, if_pos (show tellE .fr e = ((i : Nat) : Int) from (eq_of_beq cc1).symm)]]; rw [← out_eq hckB ⟨by omega, by simp at cc0; omega⟩]; exact newR.out (R := pInts) F175
  obtain ⟨a164, c165, ew167⟩ := GRowsAt.form G166
  subst ew167
  have X183 := X148.trans E173
  obtain ⟨w184, N185, M186, p187, l188, e189, E190, hM191, F192⟩ := call_fc (x := (((refRow .fr l ((i : Nat) : Int) l.length) ++ [((l.length : Nat) : Int)]), ((refRow .fr l ((i : Nat) : Int) l.length) ++ [((l.length : Nat) : Int)]))) hM174 con20 (⟨_, _, rfl, G166, (by refine own_rows (g := iRow) (w := 1) (el := 3) (b := b110) (n := (((0 + (refRow .fr l ((i : Nat) : Int) l.length).length) + [((l.length : Nat) : Int)].length))) (c := c111) (l := ((refRow .fr l ((i : Nat) : Int) l.length) ++ [((l.length : Nat) : Int)])) ?_ (by simp) (fun _ _ => rfl) (by have h1 := refRow_len .fr l ((i : Nat) : Int) l.length; first | omega | (simp only [List.length_singleton]; omega)); rw [show ((((refRow .fr l ((i : Nat) : Int) l.length) ++ [((l.length : Nat) : Int)])).map iRow).flatten = ((([] : List Value) ++ ((refRow .fr l ((i : Nat) : Int) l.length).map iRow).flatten) ++ ([((l.length : Nat) : Int)].map iRow).flatten) from by simp]; exact g180)⟩)
  have nx193 := E190.next
  have F194 := AP.Ext (R := pInts) G166 E190
  have g195 := E190.old g177
  have g196 := E190.old g178
  have g197 := E190.old g179
  have g198 := E190.old g180
  have g199 := E190.old g181
  have g200 := E190.old g182
  have ew184 : w184 = .bool true := (show w184 = .bool (decide (((refRow .fr l ((i : Nat) : Int) l.length) ++ [((l.length : Nat) : Int)]) = ((refRow .fr l ((i : Nat) : Int) l.length) ++ [((l.length : Nat) : Int)]))) from F192).trans (congrArg Value.bool (decide_eq_true rfl))
  subst ew184
  have X201 := X183.trans E190
  obtain ⟨w205, N206, M207, p208, l209, e210, E211, hM212, F213⟩ := call_fc (x := ((adjM n (l ++ [e])), ((i : Nat) : Int))) hM191 con14 (⟨⟨_, _, rfl, AP.Ext (R := (pAdj 48)) hB_ X201, rfl⟩, okA_adjM hckB⟩)
  have nx214 := E211.next
  have F215 := AP.Ext (R := pInts) F194 E211
  have g216 := E211.old g195
  have g217 := E211.old g196
  have g218 := E211.old g197
  have g219 := E211.old g198
  have g220 := E211.old g199
  have g221 := E211.old g200
  have G204 : pInts ((refRow .to l ((i : Nat) : Int) l.length) ++ [((l.length : Nat) : Int)]) w205 M207 := by rw [show ((refRow .to l ((i : Nat) : Int) l.length) ++ [((l.length : Nat) : Int)]) = refRow .to (l ++ [e]) ((i : Nat) : Int) (l ++ [e]).length from by rw [more_row, if_pos (show tellE .to e = ((i : Nat) : Int) from (eq_of_beq cc2).symm)]]; rw [← in_eq hckB ⟨by omega, by simp at cc0; omega⟩]; exact newR.out (R := pInts) F213
  obtain ⟨a202, c203, ew205⟩ := GRowsAt.form G204
  subst ew205
  have X222 := X201.trans E211
  obtain ⟨w223, N224, M225, p226, l227, e228, E229, hM230, F231⟩ := call_fc (x := (((refRow .to l ((i : Nat) : Int) l.length) ++ [((l.length : Nat) : Int)]), ((refRow .to l ((i : Nat) : Int) l.length) ++ [((l.length : Nat) : Int)]))) hM212 con20 (⟨_, _, rfl, G204, (by refine own_rows (g := iRow) (w := 1) (el := 3) (b := b144) (n := (((0 + (refRow .to l ((i : Nat) : Int) l.length).length) + [((l.length : Nat) : Int)].length))) (c := c145) (l := ((refRow .to l ((i : Nat) : Int) l.length) ++ [((l.length : Nat) : Int)])) ?_ (by simp) (fun _ _ => rfl) (by have h1 := refRow_len .to l ((i : Nat) : Int) l.length; first | omega | (simp only [List.length_singleton]; omega)); rw [show ((((refRow .to l ((i : Nat) : Int) l.length) ++ [((l.length : Nat) : Int)])).map iRow).flatten = ((([] : List Value) ++ ((refRow .to l ((i : Nat) : Int) l.length).map iRow).flatten) ++ ([((l.length : Nat) : Int)].map iRow).flatten) from by simp]; exact g221)⟩)
  have nx232 := E229.next
  have F233 := AP.Ext (R := pInts) F215 E229
  have F234 := AP.Ext (R := pInts) G204 E229
  have g235 := E229.old g216
  have g236 := E229.old g217
  have g237 := E229.old g218
  have g238 := E229.old g219
  have g239 := E229.old g220
  have g240 := E229.old g221
  have ew223 : w223 = .bool true := (show w223 = .bool (decide (((refRow .to l ((i : Nat) : Int) l.length) ++ [((l.length : Nat) : Int)]) = ((refRow .to l ((i : Nat) : Int) l.length) ++ [((l.length : Nat) : Int)]))) from F231).trans (congrArg Value.bool (decide_eq_true rfl))
  subst ew223
  have X241 := X222.trans E229
  obtain ⟨w242, N243, M244, p245, l246, e247, E248, hM249, F250⟩ := call_fc (x := ((adjM n l), ((i : Nat) : Int))) hM230 con18 (⟨⟨_, _, rfl, AP.Ext (R := (pAdj 48)) hA_ X241, rfl⟩, okA_adjM hckA⟩)
  have nx251 := E248.next
  have F252 := AP.Ext (R := pInts) F233 E248
  have F253 := AP.Ext (R := pInts) F234 E248
  have g254 := E248.old g235
  have g255 := E248.old g236
  have g256 := E248.old g237
  have g257 := E248.old g238
  have g258 := E248.old g239
  have g259 := E248.old g240
  have ew242 : w242 = (i64 (modesI (adjM n l) ((i : Nat) : Int))) := F250
  subst ew242
  have X260 := X241.trans E248
  obtain ⟨w261, N262, M263, p264, l265, e266, E267, hM268, F269⟩ := call_fc (x := ((adjM n (l ++ [e])), ((i : Nat) : Int))) hM249 con18 (⟨⟨_, _, rfl, AP.Ext (R := (pAdj 48)) hB_ X260, rfl⟩, okA_adjM hckB⟩)
  have nx270 := E267.next
  have F271 := AP.Ext (R := pInts) F252 E267
  have F272 := AP.Ext (R := pInts) F253 E267
  have g273 := E267.old g254
  have g274 := E267.old g255
  have g275 := E267.old g256
  have g276 := E267.old g257
  have g277 := E267.old g258
  have g278 := E267.old g259
  have ew261 : w261 = (i64 (modesI (adjM n (l ++ [e])) ((i : Nat) : Int))) := F269
  subst ew261
  have X279 := X260.trans E267
  have hraw := r9tt_raw q p ab bb mb mo mk mc n i VE l e M  b1 M2 a12 c13 M17 t29 b30 c31 M32 b47 M48 a59 c60 M64 t77 b78 c79 M80 b96 M97 t109 b110 c111 M112 b129 M130 t143 b144 c145 M146 a164 c165 M169 M186 a202 c203 M207 M225 M244 M263
  obtain ⟨T1, h1, h2⟩ := Rd.told noNumP mixedP (fun B => specsB_ok (k := []) (hS9_13_14_18_20 B) (fun p hp => by cases hp)) (fun _ _ => rfl) hraw (hk (lC dC3 gq rfl) (hk (bT cc0) (hk (q_eq (by rw [← eb3, ← em4]; kernel_rfl) Nat.one_ne_zero) (hk (q_call rfl p18 l19 e20) (hk (q_app q33 (by cases t29 <;> simp)) (hk (q_eq (by rw [← eb49, ← em50]; kernel_rfl) Nat.one_ne_zero) (hk (q_call rfl p65 l66 e67) (hk (q_app q81 (by cases t77 <;> simp)) (hk (lC dC24 g94 rfl) (hk (q_inb hi0.1 hi0.2) (hk (q_ld (aload_ext X82 hld1)) (hk (bT cc1) (hk (q_eq (by rw [← eb98, ← em99]; kernel_rfl) Nat.one_ne_zero) (hk (q_app q113 (by cases t109 <;> simp)) (hk (lC dC24 g126 rfl) (hk (q_inb hi0.1 hi0.2) (hk (q_ld (aload_ext X114 hld2)) (hk (bT cc2) (hk (q_eq (by rw [← eb131, ← em132]; kernel_rfl) Nat.one_ne_zero) (hk (q_app q147 (by cases t143 <;> simp)) (hk (q_call rfl p170 l171 e172) (hk (q_call rfl p187 l188 e189) (hk (q_call rfl p208 l209 e210) (hk (q_call rfl p226 l227 e228) (hk (q_call rfl p245 l246 e247) (hk (q_call rfl p264 l265 e266) (hk (bF (by rw [cc3]; rfl)) hn)))))))))))))))))))))))))))
  exact ⟨T1, M263, h1, h2, X279, hM268, g273, g274⟩
theorem r9tf_raw (q p ab bb mb mo mk mc n i : Nat) (VE : Value) (l : List E4) (e : E4) (M : Mem) (b1 : Nat) (M2 : Mem) (a12 : Option Addr) (c13 : Nat) (M17 : Mem) (t29 : Bool) (b30 : Nat) (c31 : Nat) (M32 : Mem) (b47 : Nat) (M48 : Mem) (a59 : Option Addr) (c60 : Nat) (M64 : Mem) (t77 : Bool) (b78 : Nat) (c79 : Nat) (M80 : Mem) (b96 : Nat) (M97 : Mem) (t109 : Bool) (b110 : Nat) (c111 : Nat) (M112 : Mem) (a129 : Option Addr) (c130 : Nat) (M134 : Mem) (M150 : Mem) (a165 : Option Addr) (c166 : Nat) (M170 : Mem) (M187 : Mem) (M205 : Mem) (M223 : Mem) : oR Try.prog [] 140 Try.f9 (q9.loopAt 0) [(11, (pt q 0)), (12, (pt p 0)), (13, (pt ab 0)), (14, (pt bb 0)), (15, (i64 (((l.length : Nat) : Int)))), (16, (i64 (((i : Nat) : Int))))] M [ttL 5 (i64 (((n : Nat) : Int))), ttT 8, ttV 10 (sli b1 0 0 1) M2, ttV 16 (.slice a12 (refRow .fr l ((i : Nat) : Int) l.length).length c13) M17, .at 18 ((bif t29 then 1 else 2), .val (sli b30 0 ((0 + (refRow .fr l ((i : Nat) : Int) l.length).length)) c31), M32), ttV 20 (sli b47 0 0 1) M48, ttV 26 (.slice a59 (refRow .to l ((i : Nat) : Int) l.length).length c60) M64, .at 28 ((bif t77 then 1 else 2), .val (sli b78 0 ((0 + (refRow .to l ((i : Nat) : Int) l.length).length)) c79), M80), ttL 38 (sli mb mo mk mc), ttT 42, ttL 46 (i64 e.f), ttT 49, ttV 55 (sli b96 0 1 2) M97, .at 57 ((bif t109 then 1 else 2), .val (sli b110 0 (((0 + (refRow .fr l ((i : Nat) : Int) l.length).length) + [((l.length : Nat) : Int)].length)) c111), M112), ttL 65 (sli mb mo mk mc), ttT 69, ttL 73 (i64 e.t), ttF 76, ttV 82 (.slice a129 ((refRow .fr l ((i : Nat) : Int) l.length) ++ [((l.length : Nat) : Int)]).length c130) M134, ttV 86 (.bool true) M150, ttV 96 (.slice a165 (refRow .to l ((i : Nat) : Int) l.length).length c166) M170, ttV 100 (.bool true) M187, ttV 112 (i64 (modesI (adjM n l) ((i : Nat) : Int))) M205, ttV 118 (i64 (modesI (adjM n (l ++ [e])) ((i : Nat) : Int))) M223, ttF 125] [11, 12, 13, 14, 15, 16] = some (.normal, [some (pt q 0), some (pt p 0), some (pt ab 0), some (pt bb 0), some (i64 (((l.length : Nat) : Int))), some (i64 (IntKind.wrap .i64 ((((i : Nat) : Int)) + (1 : Int))))], M223, [qL 3 q 0 M (i64 (((n : Nat) : Int))), qT (decide ((((i : Nat) : Int)) < (((n : Nat) : Int)))), .eq (abuildSlice Try.prog 22 0 [] M) (1, .val (sli b1 0 0 1), M2), qC 13 [(pt ab 0), (i64 (((i : Nat) : Int)))] M2 (.slice a12 (refRow .fr l ((i : Nat) : Int) l.length).length c13) M17, .q (.append [22, 22] (sli b1 0 0 1) (.slice a12 (refRow .fr l ((i : Nat) : Int) l.length).length c13) M17) ((bif t29 then 1 else 2), .val (sli b30 0 ((0 + (refRow .fr l ((i : Nat) : Int) l.length).length)) c31), M32), .eq (abuildSlice Try.prog 22 0 [] M32) (1, .val (sli b47 0 0 1), M48), qC 14 [(pt ab 0), (i64 (((i : Nat) : Int)))] M48 (.slice a59 (refRow .to l ((i : Nat) : Int) l.length).length c60) M64, .q (.append [22, 22] (sli b47 0 0 1) (.slice a59 (refRow .to l ((i : Nat) : Int) l.length).length c60) M64) ((bif t77 then 1 else 2), .val (sli b78 0 ((0 + (refRow .to l ((i : Nat) : Int) l.length).length)) c79), M80), qL 24 p 1 M80 (sli mb mo mk mc), .q (.inb (((l.length : Nat) : Int)) mk) (ansB true), qL 3 mb (mo + (((l.length : Nat) : Int) : Int).toNat * 4) M80 (i64 e.f), qT ((((i : Nat) : Int)) == e.f), .eq (abuildSlice Try.prog 22 1 [(0, (i64 (((l.length : Nat) : Int))))] M80) (1, .val (sli b96 0 1 2), M97), .q (.append [22, 22] (sli b30 0 ((0 + (refRow .fr l ((i : Nat) : Int) l.length).length)) c31) (sli b96 0 1 2) M97) ((bif t109 then 1 else 2), .val (sli b110 0 (((0 + (refRow .fr l ((i : Nat) : Int) l.length).length) + [((l.length : Nat) : Int)].length)) c111), M112), qL 24 p 1 M112 (sli mb mo mk mc), .q (.inb (((l.length : Nat) : Int)) mk) (ansB true), qL 3 mb (mo + (((l.length : Nat) : Int) : Int).toNat * 4 + 1) M112 (i64 e.t), qF ((((i : Nat) : Int)) == e.t), qC 13 [(pt bb 0), (i64 (((i : Nat) : Int)))] M112 (.slice a129 ((refRow .fr l ((i : Nat) : Int) l.length) ++ [((l.length : Nat) : Int)]).length c130) M134, qC 20 [(.slice a129 ((refRow .fr l ((i : Nat) : Int) l.length) ++ [((l.length : Nat) : Int)]).length c130), (sli b110 0 (((0 + (refRow .fr l ((i : Nat) : Int) l.length).length) + [((l.length : Nat) : Int)].length)) c111)] M134 (.bool true) M150, qC 14 [(pt bb 0), (i64 (((i : Nat) : Int)))] M150 (.slice a165 (refRow .to l ((i : Nat) : Int) l.length).length c166) M170, qC 20 [(.slice a165 (refRow .to l ((i : Nat) : Int) l.length).length c166), (sli b78 0 ((0 + (refRow .to l ((i : Nat) : Int) l.length).length)) c79)] M170 (.bool true) M187, qC 18 [(pt ab 0), (i64 (((i : Nat) : Int)))] M187 (i64 (modesI (adjM n l) ((i : Nat) : Int))) M205, qC 18 [(pt bb 0), (i64 (((i : Nat) : Int)))] M205 (i64 (modesI (adjM n (l ++ [e])) ((i : Nat) : Int))) M223, qF (!((anI (modesI (adjM n l) ((i : Nat) : Int)) (modesI (adjM n (l ++ [e])) ((i : Nat) : Int))) == (0 : Int)))]) := by cases t29 <;> cases t77 <;> cases t109 <;> kernel_rfl
theorem r9tf (q p ab bb mb mo mk mc n i : Nat) (VE : Value) (l : List E4) (e : E4) {M M0 : Mem} (hM : MemOk M) (X0 : Ext M0 M) (gq : M.get q = some ⟨[i64 ((n : Nat) : Int), VE], 26, 2, 0, true⟩) (gp : M.get p = some ⟨[i64 ((n : Nat) : Int), (sli mb mo mk mc)], 26, 2, 0, true⟩) (hA_ : pAdj 48 (adjM n l) (pt ab 0) M0) (hB_ : pAdj 48 (adjM n (l ++ [e])) (pt bb 0) M0) (hckA : chkN ((n : Nat) : Int) l = true) (hckB : chkN ((n : Nat) : Int) (l ++ [e]) = true) (hl400 : l.length ≤ 400) (dpq : q ≠ p) (cc0 : (decide ((((i : Nat) : Int)) < (((n : Nat) : Int)))) = true) (cc1 : ((((i : Nat) : Int)) == e.f) = true) (cc2 : ((((i : Nat) : Int)) == e.t) = false) (cc3 : ((anI (modesI (adjM n l) ((i : Nat) : Int)) (modesI (adjM n (l ++ [e])) ((i : Nat) : Int))) == (0 : Int)) = true) (hi0 : 0 ≤ (((l.length : Nat) : Int) : Int) ∧ (((l.length : Nat) : Int) : Int) < mk) (hld1 : aload Try.prog 3 ⟨mb, mo + (((l.length : Nat) : Int) : Int).toNat * 4, none⟩ M0 = some (i64 e.f)) (hld2 : aload Try.prog 3 ⟨mb, mo + (((l.length : Nat) : Int) : Int).toNat * 4 + 1, none⟩ M0 = some (i64 e.t)) : ∃ T1 M', Rd Try.prog [] (q9.loopAt 0) Try.f9.ntmps (fr [(11, (pt q 0)), (12, (pt p 0)), (13, (pt ab 0)), (14, (pt bb 0)), (15, (i64 (((l.length : Nat) : Int)))), (16, (i64 (((i : Nat) : Int))))]) M .normal T1 M' ∧ [11, 12, 13, 14, 15, 16].map T1.get = [some (pt q 0), some (pt p 0), some (pt ab 0), some (pt bb 0), some (i64 (((l.length : Nat) : Int))), some (i64 (IntKind.wrap .i64 ((((i : Nat) : Int)) + (1 : Int))))] ∧ Ext M0 M' ∧ MemOk M' ∧ M'.get q = some ⟨[(i64 (((n : Nat) : Int))), VE], 26, 2, 0, true⟩ ∧ M'.get p = some ⟨[(i64 (((n : Nat) : Int))), (sli mb mo mk mc)], 26, 2, 0, true⟩ := by
  obtain ⟨b1, M2, eb3, em4, g5, E6, hM7⟩ := new_t hM ⟨[], 3, 1, 0, true⟩
  have nb1 : M0.next ≤ b1 := by rw [← eb3]; exact X0.next
  have dqb1 : q ≠ b1 := by have := Mem.lt_of_get gq; omega
  have dpb1 : p ≠ b1 := by have := Mem.lt_of_get gp; omega
  have g8 := E6.old gq
  have g9 := E6.old gp
  have nx10 := E6.next
  have X11 := X0.trans E6
  obtain ⟨w15, N16, M17, p18, l19, e20, E21, hM22, F23⟩ := call_fc (x := ((adjM n l), ((i : Nat) : Int))) hM7 con13 (⟨⟨_, _, rfl, AP.Ext (R := (pAdj 48)) hA_ X11, rfl⟩, okA_adjM hckA⟩)
  have nx24 := E21.next
  have g25 := E21.old g8
  have g26 := E21.old g9
  have g27 := E21.old g5
  have G14 : pInts (refRow .fr l ((i : Nat) : Int) l.length) w15 M17 := by rw [← out_eq hckA ⟨by omega, by simp at cc0; omega⟩]; exact newR.out (R := pInts) F23
  obtain ⟨a12, c13, ew15⟩ := GRowsAt.form G14
  subst ew15
  have X28 := X11.trans E21
  obtain ⟨t29, b30, c31, M32, q33, X34, hM35, nb30, g36, hs37, hl38, kp39, fr40, t41, t42, nx43, lg44⟩ := own_app (P := Try.prog) (sT := 22) (xT := 22) (y := 8) (w := 1) (n := 0) (c := 1) (cs := ([] : List Value)) X28 (.inl ⟨rfl, rfl, rfl⟩) rfl nb1 g27 hM22 (by kernel_rfl) (by kernel_rfl) (by kernel_rfl) (by kernel_rfl) (by decide) (by decide) rfl G14 (by have := refRow_len .fr l ((i : Nat) : Int) l.length; omega) (fun _ _ => rfl)
  have g45 := kp39 _ _ g25 dqb1
  have dqb30 : q ≠ b30 := (fr40).elim (fun hh => by rw [hh]; exact dqb1) (fun hh => by have := Mem.lt_of_get g25; omega)
  have g46 := kp39 _ _ g26 dpb1
  have dpb30 : p ≠ b30 := (fr40).elim (fun hh => by rw [hh]; exact dpb1) (fun hh => by have := Mem.lt_of_get g26; omega)
  obtain ⟨b47, M48, eb49, em50, g51, E52, hM53⟩ := new_t hM35 ⟨[], 3, 1, 0, true⟩
  have nb47 : M0.next ≤ b47 := by rw [← eb49]; exact X34.next
  have dqb47 : q ≠ b47 := by have := Mem.lt_of_get g45; omega
  have dpb47 : p ≠ b47 := by have := Mem.lt_of_get g46; omega
  have db30b47 : b30 ≠ b47 := by have := Mem.lt_of_get g36; omega
  have g54 := E52.old g45
  have g55 := E52.old g46
  have g56 := E52.old g36
  have nx57 := E52.next
  have X58 := X34.trans E52
  obtain ⟨w62, N63, M64, p65, l66, e67, E68, hM69, F70⟩ := call_fc (x := ((adjM n l), ((i : Nat) : Int))) hM53 con14 (⟨⟨_, _, rfl, AP.Ext (R := (pAdj 48)) hA_ X58, rfl⟩, okA_adjM hckA⟩)
  have nx71 := E68.next
  have g72 := E68.old g54
  have g73 := E68.old g55
  have g74 := E68.old g56
  have g75 := E68.old g51
  have G61 : pInts (refRow .to l ((i : Nat) : Int) l.length) w62 M64 := by rw [← in_eq hckA ⟨by omega, by simp at cc0; omega⟩]; exact newR.out (R := pInts) F70
  obtain ⟨a59, c60, ew62⟩ := GRowsAt.form G61
  subst ew62
  have X76 := X58.trans E68
  obtain ⟨t77, b78, c79, M80, q81, X82, hM83, nb78, g84, hs85, hl86, kp87, fr88, t89, t90, nx91, lg92⟩ := own_app (P := Try.prog) (sT := 22) (xT := 22) (y := 8) (w := 1) (n := 0) (c := 1) (cs := ([] : List Value)) X76 (.inl ⟨rfl, rfl, rfl⟩) rfl nb47 g75 hM69 (by kernel_rfl) (by kernel_rfl) (by kernel_rfl) (by kernel_rfl) (by decide) (by decide) rfl G61 (by have := refRow_len .to l ((i : Nat) : Int) l.length; omega) (fun _ _ => rfl)
  have g93 := kp87 _ _ g72 dqb47
  have dqb78 : q ≠ b78 := (fr88).elim (fun hh => by rw [hh]; exact dqb47) (fun hh => by have := Mem.lt_of_get g72; omega)
  have g94 := kp87 _ _ g73 dpb47
  have dpb78 : p ≠ b78 := (fr88).elim (fun hh => by rw [hh]; exact dpb47) (fun hh => by have := Mem.lt_of_get g73; omega)
  have g95 := kp87 _ _ g74 db30b47
  have db30b78 : b30 ≠ b78 := (fr88).elim (fun hh => by rw [hh]; exact db30b47) (fun hh => by have := Mem.lt_of_get g74; omega)
  obtain ⟨b96, M97, eb98, em99, g100, E101, hM102⟩ := new_t hM83 ⟨[(i64 (((l.length : Nat) : Int)))], 3, 1, 0, true⟩
  have nb96 : M0.next ≤ b96 := by rw [← eb98]; exact X82.next
  have dqb96 : q ≠ b96 := by have := Mem.lt_of_get g93; omega
  have dpb96 : p ≠ b96 := by have := Mem.lt_of_get g94; omega
  have db30b96 : b30 ≠ b96 := by have := Mem.lt_of_get g95; omega
  have db78b96 : b78 ≠ b96 := by have := Mem.lt_of_get g84; omega
  have g103 := E101.old g93
  have g104 := E101.old g94
  have g105 := E101.old g95
  have g106 := E101.old g84
  have nx107 := E101.next
  have X108 := X82.trans E101
  obtain ⟨t109, b110, c111, M112, q113, X114, hM115, nb110, g116, hs117, hl118, kp119, fr120, t121, t122, nx123, lg124⟩ := own_app (P := Try.prog) (sT := 22) (xT := 22) (y := 8) (w := 1) (n := (0 + (refRow .fr l ((i : Nat) : Int) l.length).length)) (c := c31) (cs := (([] : List Value) ++ ((refRow .fr l ((i : Nat) : Int) l.length).map iRow).flatten)) X108 hs37 hl38 nb30 g105 hM102 (by kernel_rfl) (by kernel_rfl) (by kernel_rfl) (by kernel_rfl) (by decide) (by decide) rfl (own_rows (g := iRow) (c := 2) (l := [((l.length : Nat) : Int)]) g100 rfl (fun _ _ => rfl) (by simp)) (by have h1 := refRow_len .fr l ((i : Nat) : Int) l.length; have h2 := refRow_len .to l ((i : Nat) : Int) l.length; simp only [List.length_singleton]; omega) (fun _ _ => rfl)
  have g125 := kp119 _ _ g103 dqb30
  have dqb110 : q ≠ b110 := (fr120).elim (fun hh => by rw [hh]; exact dqb30) (fun hh => by have := Mem.lt_of_get g103; omega)
  have g126 := kp119 _ _ g104 dpb30
  have dpb110 : p ≠ b110 := (fr120).elim (fun hh => by rw [hh]; exact dpb30) (fun hh => by have := Mem.lt_of_get g104; omega)
  have g127 := kp119 _ _ g106 (Ne.symm db30b78)
  have db78b110 : b78 ≠ b110 := (fr120).elim (fun hh => by rw [hh]; exact (Ne.symm db30b78)) (fun hh => by have := Mem.lt_of_get g106; omega)
  have g128 := kp119 _ _ g100 (Ne.symm db30b96)
  have db96b110 : b96 ≠ b110 := (fr120).elim (fun hh => by rw [hh]; exact (Ne.symm db30b96)) (fun hh => by have := Mem.lt_of_get g100; omega)
  obtain ⟨w132, N133, M134, p135, l136, e137, E138, hM139, F140⟩ := call_fc (x := ((adjM n (l ++ [e])), ((i : Nat) : Int))) hM115 con13 (⟨⟨_, _, rfl, AP.Ext (R := (pAdj 48)) hB_ X114, rfl⟩, okA_adjM hckB⟩)
  have nx141 := E138.next
  have g142 := E138.old g125
  have g143 := E138.old g126
  have g144 := E138.old g127
  have g145 := E138.old g128
  have g146 := E138.old g116
  have G131 : pInts ((refRow .fr l ((i : Nat) : Int) l.length) ++ [((l.length : Nat) : Int)]) w132 M134 := by rw [show ((refRow .fr l ((i : Nat) : Int) l.length) ++ [((l.length : Nat) : Int)]) = refRow .fr (l ++ [e]) ((i : Nat) : Int) (l ++ [e]).length from by rw [more_row, if_pos (show tellE .fr e = ((i : Nat) : Int) from (eq_of_beq cc1).symm)]]; rw [← out_eq hckB ⟨by omega, by simp at cc0; omega⟩]; exact newR.out (R := pInts) F140
  obtain ⟨a129, c130, ew132⟩ := GRowsAt.form G131
  subst ew132
  have X147 := X114.trans E138
  obtain ⟨w148, N149, M150, p151, l152, e153, E154, hM155, F156⟩ := call_fc (x := (((refRow .fr l ((i : Nat) : Int) l.length) ++ [((l.length : Nat) : Int)]), ((refRow .fr l ((i : Nat) : Int) l.length) ++ [((l.length : Nat) : Int)]))) hM139 con20 (⟨_, _, rfl, G131, (by refine own_rows (g := iRow) (w := 1) (el := 3) (b := b110) (n := (((0 + (refRow .fr l ((i : Nat) : Int) l.length).length) + [((l.length : Nat) : Int)].length))) (c := c111) (l := ((refRow .fr l ((i : Nat) : Int) l.length) ++ [((l.length : Nat) : Int)])) ?_ (by simp) (fun _ _ => rfl) (by have h1 := refRow_len .fr l ((i : Nat) : Int) l.length; first | omega | (simp only [List.length_singleton]; omega)); rw [show ((((refRow .fr l ((i : Nat) : Int) l.length) ++ [((l.length : Nat) : Int)])).map iRow).flatten = ((([] : List Value) ++ ((refRow .fr l ((i : Nat) : Int) l.length).map iRow).flatten) ++ ([((l.length : Nat) : Int)].map iRow).flatten) from by simp]; exact g146)⟩)
  have nx157 := E154.next
  have F158 := AP.Ext (R := pInts) G131 E154
  have g159 := E154.old g142
  have g160 := E154.old g143
  have g161 := E154.old g144
  have g162 := E154.old g145
  have g163 := E154.old g146
  have ew148 : w148 = .bool true := (show w148 = .bool (decide (((refRow .fr l ((i : Nat) : Int) l.length) ++ [((l.length : Nat) : Int)]) = ((refRow .fr l ((i : Nat) : Int) l.length) ++ [((l.length : Nat) : Int)]))) from F156).trans (congrArg Value.bool (decide_eq_true rfl))
  subst ew148
  have X164 := X147.trans E154
  obtain ⟨w168, N169, M170, p171, l172, e173, E174, hM175, F176⟩ := call_fc (x := ((adjM n (l ++ [e])), ((i : Nat) : Int))) hM155 con14 (⟨⟨_, _, rfl, AP.Ext (R := (pAdj 48)) hB_ X164, rfl⟩, okA_adjM hckB⟩)
  have nx177 := E174.next
  have F178 := AP.Ext (R := pInts) F158 E174
  have g179 := E174.old g159
  have g180 := E174.old g160
  have g181 := E174.old g161
  have g182 := E174.old g162
  have g183 := E174.old g163
  have G167 : pInts (refRow .to l ((i : Nat) : Int) l.length) w168 M170 := by rw [show (refRow .to l ((i : Nat) : Int) l.length) = refRow .to (l ++ [e]) ((i : Nat) : Int) (l ++ [e]).length from by rw [more_row, if_neg (show ¬ tellE .to e = ((i : Nat) : Int) from fun hh => by rw [show (((i : Nat) : Int) == e.t) = true from by rw [show e.t = ((i : Nat) : Int) from hh]; exact beq_self_eq_true _] at cc2; cases cc2)]; rw [List.append_nil]]; rw [← in_eq hckB ⟨by omega, by simp at cc0; omega⟩]; exact newR.out (R := pInts) F176
  obtain ⟨a165, c166, ew168⟩ := GRowsAt.form G167
  subst ew168
  have X184 := X164.trans E174
  obtain ⟨w185, N186, M187, p188, l189, e190, E191, hM192, F193⟩ := call_fc (x := ((refRow .to l ((i : Nat) : Int) l.length), (refRow .to l ((i : Nat) : Int) l.length))) hM175 con20 (⟨_, _, rfl, G167, (by refine own_rows (g := iRow) (w := 1) (el := 3) (b := b78) (n := ((0 + (refRow .to l ((i : Nat) : Int) l.length).length))) (c := c79) (l := (refRow .to l ((i : Nat) : Int) l.length)) ?_ (by simp) (fun _ _ => rfl) (by have h1 := refRow_len .to l ((i : Nat) : Int) l.length; first | omega | (simp only [List.length_singleton]; omega)); rw [show (((refRow .to l ((i : Nat) : Int) l.length)).map iRow).flatten = (([] : List Value) ++ ((refRow .to l ((i : Nat) : Int) l.length).map iRow).flatten) from by simp]; exact g181)⟩)
  have nx194 := E191.next
  have F195 := AP.Ext (R := pInts) F178 E191
  have F196 := AP.Ext (R := pInts) G167 E191
  have g197 := E191.old g179
  have g198 := E191.old g180
  have g199 := E191.old g181
  have g200 := E191.old g182
  have g201 := E191.old g183
  have ew185 : w185 = .bool true := (show w185 = .bool (decide ((refRow .to l ((i : Nat) : Int) l.length) = (refRow .to l ((i : Nat) : Int) l.length))) from F193).trans (congrArg Value.bool (decide_eq_true rfl))
  subst ew185
  have X202 := X184.trans E191
  obtain ⟨w203, N204, M205, p206, l207, e208, E209, hM210, F211⟩ := call_fc (x := ((adjM n l), ((i : Nat) : Int))) hM192 con18 (⟨⟨_, _, rfl, AP.Ext (R := (pAdj 48)) hA_ X202, rfl⟩, okA_adjM hckA⟩)
  have nx212 := E209.next
  have F213 := AP.Ext (R := pInts) F195 E209
  have F214 := AP.Ext (R := pInts) F196 E209
  have g215 := E209.old g197
  have g216 := E209.old g198
  have g217 := E209.old g199
  have g218 := E209.old g200
  have g219 := E209.old g201
  have ew203 : w203 = (i64 (modesI (adjM n l) ((i : Nat) : Int))) := F211
  subst ew203
  have X220 := X202.trans E209
  obtain ⟨w221, N222, M223, p224, l225, e226, E227, hM228, F229⟩ := call_fc (x := ((adjM n (l ++ [e])), ((i : Nat) : Int))) hM210 con18 (⟨⟨_, _, rfl, AP.Ext (R := (pAdj 48)) hB_ X220, rfl⟩, okA_adjM hckB⟩)
  have nx230 := E227.next
  have F231 := AP.Ext (R := pInts) F213 E227
  have F232 := AP.Ext (R := pInts) F214 E227
  have g233 := E227.old g215
  have g234 := E227.old g216
  have g235 := E227.old g217
  have g236 := E227.old g218
  have g237 := E227.old g219
  have ew221 : w221 = (i64 (modesI (adjM n (l ++ [e])) ((i : Nat) : Int))) := F229
  subst ew221
  have X238 := X220.trans E227
  have hraw := r9tf_raw q p ab bb mb mo mk mc n i VE l e M  b1 M2 a12 c13 M17 t29 b30 c31 M32 b47 M48 a59 c60 M64 t77 b78 c79 M80 b96 M97 t109 b110 c111 M112 a129 c130 M134 M150 a165 c166 M170 M187 M205 M223
  obtain ⟨T1, h1, h2⟩ := Rd.told noNumP mixedP (fun B => specsB_ok (k := []) (hS9_13_14_18_20 B) (fun p hp => by cases hp)) (fun _ _ => rfl) hraw (hk (lC dC3 gq rfl) (hk (bT cc0) (hk (q_eq (by rw [← eb3, ← em4]; kernel_rfl) Nat.one_ne_zero) (hk (q_call rfl p18 l19 e20) (hk (q_app q33 (by cases t29 <;> simp)) (hk (q_eq (by rw [← eb49, ← em50]; kernel_rfl) Nat.one_ne_zero) (hk (q_call rfl p65 l66 e67) (hk (q_app q81 (by cases t77 <;> simp)) (hk (lC dC24 g94 rfl) (hk (q_inb hi0.1 hi0.2) (hk (q_ld (aload_ext X82 hld1)) (hk (bT cc1) (hk (q_eq (by rw [← eb98, ← em99]; kernel_rfl) Nat.one_ne_zero) (hk (q_app q113 (by cases t109 <;> simp)) (hk (lC dC24 g126 rfl) (hk (q_inb hi0.1 hi0.2) (hk (q_ld (aload_ext X114 hld2)) (hk (bF cc2) (hk (q_call rfl p135 l136 e137) (hk (q_call rfl p151 l152 e153) (hk (q_call rfl p171 l172 e173) (hk (q_call rfl p188 l189 e190) (hk (q_call rfl p206 l207 e208) (hk (q_call rfl p224 l225 e226) (hk (bF (by rw [cc3]; rfl)) hn)))))))))))))))))))))))))
  exact ⟨T1, M223, h1, h2, X238, hM228, g233, g234⟩
theorem r9ft_raw (q p ab bb mb mo mk mc n i : Nat) (VE : Value) (l : List E4) (e : E4) (M : Mem) (b1 : Nat) (M2 : Mem) (a12 : Option Addr) (c13 : Nat) (M17 : Mem) (t29 : Bool) (b30 : Nat) (c31 : Nat) (M32 : Mem) (b47 : Nat) (M48 : Mem) (a59 : Option Addr) (c60 : Nat) (M64 : Mem) (t77 : Bool) (b78 : Nat) (c79 : Nat) (M80 : Mem) (b96 : Nat) (M97 : Mem) (t109 : Bool) (b110 : Nat) (c111 : Nat) (M112 : Mem) (a129 : Option Addr) (c130 : Nat) (M134 : Mem) (M150 : Mem) (a165 : Option Addr) (c166 : Nat) (M170 : Mem) (M187 : Mem) (M205 : Mem) (M223 : Mem) : oR Try.prog [] 140 Try.f9 (q9.loopAt 0) [(11, (pt q 0)), (12, (pt p 0)), (13, (pt ab 0)), (14, (pt bb 0)), (15, (i64 (((l.length : Nat) : Int)))), (16, (i64 (((i : Nat) : Int))))] M [ttL 5 (i64 (((n : Nat) : Int))), ttT 8, ttV 10 (sli b1 0 0 1) M2, ttV 16 (.slice a12 (refRow .fr l ((i : Nat) : Int) l.length).length c13) M17, .at 18 ((bif t29 then 1 else 2), .val (sli b30 0 ((0 + (refRow .fr l ((i : Nat) : Int) l.length).length)) c31), M32), ttV 20 (sli b47 0 0 1) M48, ttV 26 (.slice a59 (refRow .to l ((i : Nat) : Int) l.length).length c60) M64, .at 28 ((bif t77 then 1 else 2), .val (sli b78 0 ((0 + (refRow .to l ((i : Nat) : Int) l.length).length)) c79), M80), ttL 38 (sli mb mo mk mc), ttT 42, ttL 46 (i64 e.f), ttF 49, ttL 55 (sli mb mo mk mc), ttT 59, ttL 63 (i64 e.t), ttT 66, ttV 72 (sli b96 0 1 2) M97, .at 74 ((bif t109 then 1 else 2), .val (sli b110 0 (((0 + (refRow .to l ((i : Nat) : Int) l.length).length) + [((l.length : Nat) : Int)].length)) c111), M112), ttV 82 (.slice a129 (refRow .fr l ((i : Nat) : Int) l.length).length c130) M134, ttV 86 (.bool true) M150, ttV 96 (.slice a165 ((refRow .to l ((i : Nat) : Int) l.length) ++ [((l.length : Nat) : Int)]).length c166) M170, ttV 100 (.bool true) M187, ttV 112 (i64 (modesI (adjM n l) ((i : Nat) : Int))) M205, ttV 118 (i64 (modesI (adjM n (l ++ [e])) ((i : Nat) : Int))) M223, ttF 125] [11, 12, 13, 14, 15, 16] = some (.normal, [some (pt q 0), some (pt p 0), some (pt ab 0), some (pt bb 0), some (i64 (((l.length : Nat) : Int))), some (i64 (IntKind.wrap .i64 ((((i : Nat) : Int)) + (1 : Int))))], M223, [qL 3 q 0 M (i64 (((n : Nat) : Int))), qT (decide ((((i : Nat) : Int)) < (((n : Nat) : Int)))), .eq (abuildSlice Try.prog 22 0 [] M) (1, .val (sli b1 0 0 1), M2), qC 13 [(pt ab 0), (i64 (((i : Nat) : Int)))] M2 (.slice a12 (refRow .fr l ((i : Nat) : Int) l.length).length c13) M17, .q (.append [22, 22] (sli b1 0 0 1) (.slice a12 (refRow .fr l ((i : Nat) : Int) l.length).length c13) M17) ((bif t29 then 1 else 2), .val (sli b30 0 ((0 + (refRow .fr l ((i : Nat) : Int) l.length).length)) c31), M32), .eq (abuildSlice Try.prog 22 0 [] M32) (1, .val (sli b47 0 0 1), M48), qC 14 [(pt ab 0), (i64 (((i : Nat) : Int)))] M48 (.slice a59 (refRow .to l ((i : Nat) : Int) l.length).length c60) M64, .q (.append [22, 22] (sli b47 0 0 1) (.slice a59 (refRow .to l ((i : Nat) : Int) l.length).length c60) M64) ((bif t77 then 1 else 2), .val (sli b78 0 ((0 + (refRow .to l ((i : Nat) : Int) l.length).length)) c79), M80), qL 24 p 1 M80 (sli mb mo mk mc), .q (.inb (((l.length : Nat) : Int)) mk) (ansB true), qL 3 mb (mo + (((l.length : Nat) : Int) : Int).toNat * 4) M80 (i64 e.f), qF ((((i : Nat) : Int)) == e.f), qL 24 p 1 M80 (sli mb mo mk mc), .q (.inb (((l.length : Nat) : Int)) mk) (ansB true), qL 3 mb (mo + (((l.length : Nat) : Int) : Int).toNat * 4 + 1) M80 (i64 e.t), qT ((((i : Nat) : Int)) == e.t), .eq (abuildSlice Try.prog 22 1 [(0, (i64 (((l.length : Nat) : Int))))] M80) (1, .val (sli b96 0 1 2), M97), .q (.append [22, 22] (sli b78 0 ((0 + (refRow .to l ((i : Nat) : Int) l.length).length)) c79) (sli b96 0 1 2) M97) ((bif t109 then 1 else 2), .val (sli b110 0 (((0 + (refRow .to l ((i : Nat) : Int) l.length).length) + [((l.length : Nat) : Int)].length)) c111), M112), qC 13 [(pt bb 0), (i64 (((i : Nat) : Int)))] M112 (.slice a129 (refRow .fr l ((i : Nat) : Int) l.length).length c130) M134, qC 20 [(.slice a129 (refRow .fr l ((i : Nat) : Int) l.length).length c130), (sli b30 0 ((0 + (refRow .fr l ((i : Nat) : Int) l.length).length)) c31)] M134 (.bool true) M150, qC 14 [(pt bb 0), (i64 (((i : Nat) : Int)))] M150 (.slice a165 ((refRow .to l ((i : Nat) : Int) l.length) ++ [((l.length : Nat) : Int)]).length c166) M170, qC 20 [(.slice a165 ((refRow .to l ((i : Nat) : Int) l.length) ++ [((l.length : Nat) : Int)]).length c166), (sli b110 0 (((0 + (refRow .to l ((i : Nat) : Int) l.length).length) + [((l.length : Nat) : Int)].length)) c111)] M170 (.bool true) M187, qC 18 [(pt ab 0), (i64 (((i : Nat) : Int)))] M187 (i64 (modesI (adjM n l) ((i : Nat) : Int))) M205, qC 18 [(pt bb 0), (i64 (((i : Nat) : Int)))] M205 (i64 (modesI (adjM n (l ++ [e])) ((i : Nat) : Int))) M223, qF (!((anI (modesI (adjM n l) ((i : Nat) : Int)) (modesI (adjM n (l ++ [e])) ((i : Nat) : Int))) == (0 : Int)))]) := by cases t29 <;> cases t77 <;> cases t109 <;> kernel_rfl
theorem r9ft (q p ab bb mb mo mk mc n i : Nat) (VE : Value) (l : List E4) (e : E4) {M M0 : Mem} (hM : MemOk M) (X0 : Ext M0 M) (gq : M.get q = some ⟨[i64 ((n : Nat) : Int), VE], 26, 2, 0, true⟩) (gp : M.get p = some ⟨[i64 ((n : Nat) : Int), (sli mb mo mk mc)], 26, 2, 0, true⟩) (hA_ : pAdj 48 (adjM n l) (pt ab 0) M0) (hB_ : pAdj 48 (adjM n (l ++ [e])) (pt bb 0) M0) (hckA : chkN ((n : Nat) : Int) l = true) (hckB : chkN ((n : Nat) : Int) (l ++ [e]) = true) (hl400 : l.length ≤ 400) (dpq : q ≠ p) (cc0 : (decide ((((i : Nat) : Int)) < (((n : Nat) : Int)))) = true) (cc1 : ((((i : Nat) : Int)) == e.f) = false) (cc2 : ((((i : Nat) : Int)) == e.t) = true) (cc3 : ((anI (modesI (adjM n l) ((i : Nat) : Int)) (modesI (adjM n (l ++ [e])) ((i : Nat) : Int))) == (0 : Int)) = true) (hi0 : 0 ≤ (((l.length : Nat) : Int) : Int) ∧ (((l.length : Nat) : Int) : Int) < mk) (hld1 : aload Try.prog 3 ⟨mb, mo + (((l.length : Nat) : Int) : Int).toNat * 4, none⟩ M0 = some (i64 e.f)) (hld2 : aload Try.prog 3 ⟨mb, mo + (((l.length : Nat) : Int) : Int).toNat * 4 + 1, none⟩ M0 = some (i64 e.t)) : ∃ T1 M', Rd Try.prog [] (q9.loopAt 0) Try.f9.ntmps (fr [(11, (pt q 0)), (12, (pt p 0)), (13, (pt ab 0)), (14, (pt bb 0)), (15, (i64 (((l.length : Nat) : Int)))), (16, (i64 (((i : Nat) : Int))))]) M .normal T1 M' ∧ [11, 12, 13, 14, 15, 16].map T1.get = [some (pt q 0), some (pt p 0), some (pt ab 0), some (pt bb 0), some (i64 (((l.length : Nat) : Int))), some (i64 (IntKind.wrap .i64 ((((i : Nat) : Int)) + (1 : Int))))] ∧ Ext M0 M' ∧ MemOk M' ∧ M'.get q = some ⟨[(i64 (((n : Nat) : Int))), VE], 26, 2, 0, true⟩ ∧ M'.get p = some ⟨[(i64 (((n : Nat) : Int))), (sli mb mo mk mc)], 26, 2, 0, true⟩ := by
  obtain ⟨b1, M2, eb3, em4, g5, E6, hM7⟩ := new_t hM ⟨[], 3, 1, 0, true⟩
  have nb1 : M0.next ≤ b1 := by rw [← eb3]; exact X0.next
  have dqb1 : q ≠ b1 := by have := Mem.lt_of_get gq; omega
  have dpb1 : p ≠ b1 := by have := Mem.lt_of_get gp; omega
  have g8 := E6.old gq
  have g9 := E6.old gp
  have nx10 := E6.next
  have X11 := X0.trans E6
  obtain ⟨w15, N16, M17, p18, l19, e20, E21, hM22, F23⟩ := call_fc (x := ((adjM n l), ((i : Nat) : Int))) hM7 con13 (⟨⟨_, _, rfl, AP.Ext (R := (pAdj 48)) hA_ X11, rfl⟩, okA_adjM hckA⟩)
  have nx24 := E21.next
  have g25 := E21.old g8
  have g26 := E21.old g9
  have g27 := E21.old g5
  have G14 : pInts (refRow .fr l ((i : Nat) : Int) l.length) w15 M17 := by rw [← out_eq hckA ⟨by omega, by simp at cc0; omega⟩]; exact newR.out (R := pInts) F23
  obtain ⟨a12, c13, ew15⟩ := GRowsAt.form G14
  subst ew15
  have X28 := X11.trans E21
  obtain ⟨t29, b30, c31, M32, q33, X34, hM35, nb30, g36, hs37, hl38, kp39, fr40, t41, t42, nx43, lg44⟩ := own_app (P := Try.prog) (sT := 22) (xT := 22) (y := 8) (w := 1) (n := 0) (c := 1) (cs := ([] : List Value)) X28 (.inl ⟨rfl, rfl, rfl⟩) rfl nb1 g27 hM22 (by kernel_rfl) (by kernel_rfl) (by kernel_rfl) (by kernel_rfl) (by decide) (by decide) rfl G14 (by have := refRow_len .fr l ((i : Nat) : Int) l.length; omega) (fun _ _ => rfl)
  have g45 := kp39 _ _ g25 dqb1
  have dqb30 : q ≠ b30 := (fr40).elim (fun hh => by rw [hh]; exact dqb1) (fun hh => by have := Mem.lt_of_get g25; omega)
  have g46 := kp39 _ _ g26 dpb1
  have dpb30 : p ≠ b30 := (fr40).elim (fun hh => by rw [hh]; exact dpb1) (fun hh => by have := Mem.lt_of_get g26; omega)
  obtain ⟨b47, M48, eb49, em50, g51, E52, hM53⟩ := new_t hM35 ⟨[], 3, 1, 0, true⟩
  have nb47 : M0.next ≤ b47 := by rw [← eb49]; exact X34.next
  have dqb47 : q ≠ b47 := by have := Mem.lt_of_get g45; omega
  have dpb47 : p ≠ b47 := by have := Mem.lt_of_get g46; omega
  have db30b47 : b30 ≠ b47 := by have := Mem.lt_of_get g36; omega
  have g54 := E52.old g45
  have g55 := E52.old g46
  have g56 := E52.old g36
  have nx57 := E52.next
  have X58 := X34.trans E52
  obtain ⟨w62, N63, M64, p65, l66, e67, E68, hM69, F70⟩ := call_fc (x := ((adjM n l), ((i : Nat) : Int))) hM53 con14 (⟨⟨_, _, rfl, AP.Ext (R := (pAdj 48)) hA_ X58, rfl⟩, okA_adjM hckA⟩)
  have nx71 := E68.next
  have g72 := E68.old g54
  have g73 := E68.old g55
  have g74 := E68.old g56
  have g75 := E68.old g51
  have G61 : pInts (refRow .to l ((i : Nat) : Int) l.length) w62 M64 := by rw [← in_eq hckA ⟨by omega, by simp at cc0; omega⟩]; exact newR.out (R := pInts) F70
  obtain ⟨a59, c60, ew62⟩ := GRowsAt.form G61
  subst ew62
  have X76 := X58.trans E68
  obtain ⟨t77, b78, c79, M80, q81, X82, hM83, nb78, g84, hs85, hl86, kp87, fr88, t89, t90, nx91, lg92⟩ := own_app (P := Try.prog) (sT := 22) (xT := 22) (y := 8) (w := 1) (n := 0) (c := 1) (cs := ([] : List Value)) X76 (.inl ⟨rfl, rfl, rfl⟩) rfl nb47 g75 hM69 (by kernel_rfl) (by kernel_rfl) (by kernel_rfl) (by kernel_rfl) (by decide) (by decide) rfl G61 (by have := refRow_len .to l ((i : Nat) : Int) l.length; omega) (fun _ _ => rfl)
  have g93 := kp87 _ _ g72 dqb47
  have dqb78 : q ≠ b78 := (fr88).elim (fun hh => by rw [hh]; exact dqb47) (fun hh => by have := Mem.lt_of_get g72; omega)
  have g94 := kp87 _ _ g73 dpb47
  have dpb78 : p ≠ b78 := (fr88).elim (fun hh => by rw [hh]; exact dpb47) (fun hh => by have := Mem.lt_of_get g73; omega)
  have g95 := kp87 _ _ g74 db30b47
  have db30b78 : b30 ≠ b78 := (fr88).elim (fun hh => by rw [hh]; exact db30b47) (fun hh => by have := Mem.lt_of_get g74; omega)
  obtain ⟨b96, M97, eb98, em99, g100, E101, hM102⟩ := new_t hM83 ⟨[(i64 (((l.length : Nat) : Int)))], 3, 1, 0, true⟩
  have nb96 : M0.next ≤ b96 := by rw [← eb98]; exact X82.next
  have dqb96 : q ≠ b96 := by have := Mem.lt_of_get g93; omega
  have dpb96 : p ≠ b96 := by have := Mem.lt_of_get g94; omega
  have db30b96 : b30 ≠ b96 := by have := Mem.lt_of_get g95; omega
  have db78b96 : b78 ≠ b96 := by have := Mem.lt_of_get g84; omega
  have g103 := E101.old g93
  have g104 := E101.old g94
  have g105 := E101.old g95
  have g106 := E101.old g84
  have nx107 := E101.next
  have X108 := X82.trans E101
  obtain ⟨t109, b110, c111, M112, q113, X114, hM115, nb110, g116, hs117, hl118, kp119, fr120, t121, t122, nx123, lg124⟩ := own_app (P := Try.prog) (sT := 22) (xT := 22) (y := 8) (w := 1) (n := (0 + (refRow .to l ((i : Nat) : Int) l.length).length)) (c := c79) (cs := (([] : List Value) ++ ((refRow .to l ((i : Nat) : Int) l.length).map iRow).flatten)) X108 hs85 hl86 nb78 g106 hM102 (by kernel_rfl) (by kernel_rfl) (by kernel_rfl) (by kernel_rfl) (by decide) (by decide) rfl (own_rows (g := iRow) (c := 2) (l := [((l.length : Nat) : Int)]) g100 rfl (fun _ _ => rfl) (by simp)) (by have h1 := refRow_len .fr l ((i : Nat) : Int) l.length; have h2 := refRow_len .to l ((i : Nat) : Int) l.length; simp only [List.length_singleton]; omega) (fun _ _ => rfl)
  have g125 := kp119 _ _ g103 dqb78
  have dqb110 : q ≠ b110 := (fr120).elim (fun hh => by rw [hh]; exact dqb78) (fun hh => by have := Mem.lt_of_get g103; omega)
  have g126 := kp119 _ _ g104 dpb78
  have dpb110 : p ≠ b110 := (fr120).elim (fun hh => by rw [hh]; exact dpb78) (fun hh => by have := Mem.lt_of_get g104; omega)
  have g127 := kp119 _ _ g105 db30b78
  have db30b110 : b30 ≠ b110 := (fr120).elim (fun hh => by rw [hh]; exact db30b78) (fun hh => by have := Mem.lt_of_get g105; omega)
  have g128 := kp119 _ _ g100 (Ne.symm db78b96)
  have db96b110 : b96 ≠ b110 := (fr120).elim (fun hh => by rw [hh]; exact (Ne.symm db78b96)) (fun hh => by have := Mem.lt_of_get g100; omega)
  obtain ⟨w132, N133, M134, p135, l136, e137, E138, hM139, F140⟩ := call_fc (x := ((adjM n (l ++ [e])), ((i : Nat) : Int))) hM115 con13 (⟨⟨_, _, rfl, AP.Ext (R := (pAdj 48)) hB_ X114, rfl⟩, okA_adjM hckB⟩)
  have nx141 := E138.next
  have g142 := E138.old g125
  have g143 := E138.old g126
  have g144 := E138.old g127
  have g145 := E138.old g128
  have g146 := E138.old g116
  have G131 : pInts (refRow .fr l ((i : Nat) : Int) l.length) w132 M134 := by rw [show (refRow .fr l ((i : Nat) : Int) l.length) = refRow .fr (l ++ [e]) ((i : Nat) : Int) (l ++ [e]).length from by rw [more_row, if_neg (show ¬ tellE .fr e = ((i : Nat) : Int) from fun hh => by rw [show (((i : Nat) : Int) == e.f) = true from by rw [show e.f = ((i : Nat) : Int) from hh]; exact beq_self_eq_true _] at cc1; cases cc1)]; rw [List.append_nil]]; rw [← out_eq hckB ⟨by omega, by simp at cc0; omega⟩]; exact newR.out (R := pInts) F140
  obtain ⟨a129, c130, ew132⟩ := GRowsAt.form G131
  subst ew132
  have X147 := X114.trans E138
  obtain ⟨w148, N149, M150, p151, l152, e153, E154, hM155, F156⟩ := call_fc (x := ((refRow .fr l ((i : Nat) : Int) l.length), (refRow .fr l ((i : Nat) : Int) l.length))) hM139 con20 (⟨_, _, rfl, G131, (by refine own_rows (g := iRow) (w := 1) (el := 3) (b := b30) (n := ((0 + (refRow .fr l ((i : Nat) : Int) l.length).length))) (c := c31) (l := (refRow .fr l ((i : Nat) : Int) l.length)) ?_ (by simp) (fun _ _ => rfl) (by have h1 := refRow_len .fr l ((i : Nat) : Int) l.length; first | omega | (simp only [List.length_singleton]; omega)); rw [show (((refRow .fr l ((i : Nat) : Int) l.length)).map iRow).flatten = (([] : List Value) ++ ((refRow .fr l ((i : Nat) : Int) l.length).map iRow).flatten) from by simp]; exact g144)⟩)
  have nx157 := E154.next
  have F158 := AP.Ext (R := pInts) G131 E154
  have g159 := E154.old g142
  have g160 := E154.old g143
  have g161 := E154.old g144
  have g162 := E154.old g145
  have g163 := E154.old g146
  have ew148 : w148 = .bool true := (show w148 = .bool (decide ((refRow .fr l ((i : Nat) : Int) l.length) = (refRow .fr l ((i : Nat) : Int) l.length))) from F156).trans (congrArg Value.bool (decide_eq_true rfl))
  subst ew148
  have X164 := X147.trans E154
  obtain ⟨w168, N169, M170, p171, l172, e173, E174, hM175, F176⟩ := call_fc (x := ((adjM n (l ++ [e])), ((i : Nat) : Int))) hM155 con14 (⟨⟨_, _, rfl, AP.Ext (R := (pAdj 48)) hB_ X164, rfl⟩, okA_adjM hckB⟩)
  have nx177 := E174.next
  have F178 := AP.Ext (R := pInts) F158 E174
  have g179 := E174.old g159
  have g180 := E174.old g160
  have g181 := E174.old g161
  have g182 := E174.old g162
  have g183 := E174.old g163
  have G167 : pInts ((refRow .to l ((i : Nat) : Int) l.length) ++ [((l.length : Nat) : Int)]) w168 M170 := by rw [show ((refRow .to l ((i : Nat) : Int) l.length) ++ [((l.length : Nat) : Int)]) = refRow .to (l ++ [e]) ((i : Nat) : Int) (l ++ [e]).length from by rw [more_row, if_pos (show tellE .to e = ((i : Nat) : Int) from (eq_of_beq cc2).symm)]]; rw [← in_eq hckB ⟨by omega, by simp at cc0; omega⟩]; exact newR.out (R := pInts) F176
  obtain ⟨a165, c166, ew168⟩ := GRowsAt.form G167
  subst ew168
  have X184 := X164.trans E174
  obtain ⟨w185, N186, M187, p188, l189, e190, E191, hM192, F193⟩ := call_fc (x := (((refRow .to l ((i : Nat) : Int) l.length) ++ [((l.length : Nat) : Int)]), ((refRow .to l ((i : Nat) : Int) l.length) ++ [((l.length : Nat) : Int)]))) hM175 con20 (⟨_, _, rfl, G167, (by refine own_rows (g := iRow) (w := 1) (el := 3) (b := b110) (n := (((0 + (refRow .to l ((i : Nat) : Int) l.length).length) + [((l.length : Nat) : Int)].length))) (c := c111) (l := ((refRow .to l ((i : Nat) : Int) l.length) ++ [((l.length : Nat) : Int)])) ?_ (by simp) (fun _ _ => rfl) (by have h1 := refRow_len .to l ((i : Nat) : Int) l.length; first | omega | (simp only [List.length_singleton]; omega)); rw [show ((((refRow .to l ((i : Nat) : Int) l.length) ++ [((l.length : Nat) : Int)])).map iRow).flatten = ((([] : List Value) ++ ((refRow .to l ((i : Nat) : Int) l.length).map iRow).flatten) ++ ([((l.length : Nat) : Int)].map iRow).flatten) from by simp]; exact g183)⟩)
  have nx194 := E191.next
  have F195 := AP.Ext (R := pInts) F178 E191
  have F196 := AP.Ext (R := pInts) G167 E191
  have g197 := E191.old g179
  have g198 := E191.old g180
  have g199 := E191.old g181
  have g200 := E191.old g182
  have g201 := E191.old g183
  have ew185 : w185 = .bool true := (show w185 = .bool (decide (((refRow .to l ((i : Nat) : Int) l.length) ++ [((l.length : Nat) : Int)]) = ((refRow .to l ((i : Nat) : Int) l.length) ++ [((l.length : Nat) : Int)]))) from F193).trans (congrArg Value.bool (decide_eq_true rfl))
  subst ew185
  have X202 := X184.trans E191
  obtain ⟨w203, N204, M205, p206, l207, e208, E209, hM210, F211⟩ := call_fc (x := ((adjM n l), ((i : Nat) : Int))) hM192 con18 (⟨⟨_, _, rfl, AP.Ext (R := (pAdj 48)) hA_ X202, rfl⟩, okA_adjM hckA⟩)
  have nx212 := E209.next
  have F213 := AP.Ext (R := pInts) F195 E209
  have F214 := AP.Ext (R := pInts) F196 E209
  have g215 := E209.old g197
  have g216 := E209.old g198
  have g217 := E209.old g199
  have g218 := E209.old g200
  have g219 := E209.old g201
  have ew203 : w203 = (i64 (modesI (adjM n l) ((i : Nat) : Int))) := F211
  subst ew203
  have X220 := X202.trans E209
  obtain ⟨w221, N222, M223, p224, l225, e226, E227, hM228, F229⟩ := call_fc (x := ((adjM n (l ++ [e])), ((i : Nat) : Int))) hM210 con18 (⟨⟨_, _, rfl, AP.Ext (R := (pAdj 48)) hB_ X220, rfl⟩, okA_adjM hckB⟩)
  have nx230 := E227.next
  have F231 := AP.Ext (R := pInts) F213 E227
  have F232 := AP.Ext (R := pInts) F214 E227
  have g233 := E227.old g215
  have g234 := E227.old g216
  have g235 := E227.old g217
  have g236 := E227.old g218
  have g237 := E227.old g219
  have ew221 : w221 = (i64 (modesI (adjM n (l ++ [e])) ((i : Nat) : Int))) := F229
  subst ew221
  have X238 := X220.trans E227
  have hraw := r9ft_raw q p ab bb mb mo mk mc n i VE l e M  b1 M2 a12 c13 M17 t29 b30 c31 M32 b47 M48 a59 c60 M64 t77 b78 c79 M80 b96 M97 t109 b110 c111 M112 a129 c130 M134 M150 a165 c166 M170 M187 M205 M223
  obtain ⟨T1, h1, h2⟩ := Rd.told noNumP mixedP (fun B => specsB_ok (k := []) (hS9_13_14_18_20 B) (fun p hp => by cases hp)) (fun _ _ => rfl) hraw (hk (lC dC3 gq rfl) (hk (bT cc0) (hk (q_eq (by rw [← eb3, ← em4]; kernel_rfl) Nat.one_ne_zero) (hk (q_call rfl p18 l19 e20) (hk (q_app q33 (by cases t29 <;> simp)) (hk (q_eq (by rw [← eb49, ← em50]; kernel_rfl) Nat.one_ne_zero) (hk (q_call rfl p65 l66 e67) (hk (q_app q81 (by cases t77 <;> simp)) (hk (lC dC24 g94 rfl) (hk (q_inb hi0.1 hi0.2) (hk (q_ld (aload_ext X82 hld1)) (hk (bF cc1) (hk (lC dC24 g94 rfl) (hk (q_inb hi0.1 hi0.2) (hk (q_ld (aload_ext X82 hld2)) (hk (bT cc2) (hk (q_eq (by rw [← eb98, ← em99]; kernel_rfl) Nat.one_ne_zero) (hk (q_app q113 (by cases t109 <;> simp)) (hk (q_call rfl p135 l136 e137) (hk (q_call rfl p151 l152 e153) (hk (q_call rfl p171 l172 e173) (hk (q_call rfl p188 l189 e190) (hk (q_call rfl p206 l207 e208) (hk (q_call rfl p224 l225 e226) (hk (bF (by rw [cc3]; rfl)) hn)))))))))))))))))))))))))
  exact ⟨T1, M223, h1, h2, X238, hM228, g233, g234⟩
theorem r9ff_raw (q p ab bb mb mo mk mc n i : Nat) (VE : Value) (l : List E4) (e : E4) (M : Mem) (b1 : Nat) (M2 : Mem) (a12 : Option Addr) (c13 : Nat) (M17 : Mem) (t29 : Bool) (b30 : Nat) (c31 : Nat) (M32 : Mem) (b47 : Nat) (M48 : Mem) (a59 : Option Addr) (c60 : Nat) (M64 : Mem) (t77 : Bool) (b78 : Nat) (c79 : Nat) (M80 : Mem) (a96 : Option Addr) (c97 : Nat) (M101 : Mem) (M116 : Mem) (a130 : Option Addr) (c131 : Nat) (M135 : Mem) (M151 : Mem) (M168 : Mem) (M185 : Mem) : oR Try.prog [] 140 Try.f9 (q9.loopAt 0) [(11, (pt q 0)), (12, (pt p 0)), (13, (pt ab 0)), (14, (pt bb 0)), (15, (i64 (((l.length : Nat) : Int)))), (16, (i64 (((i : Nat) : Int))))] M [ttL 5 (i64 (((n : Nat) : Int))), ttT 8, ttV 10 (sli b1 0 0 1) M2, ttV 16 (.slice a12 (refRow .fr l ((i : Nat) : Int) l.length).length c13) M17, .at 18 ((bif t29 then 1 else 2), .val (sli b30 0 ((0 + (refRow .fr l ((i : Nat) : Int) l.length).length)) c31), M32), ttV 20 (sli b47 0 0 1) M48, ttV 26 (.slice a59 (refRow .to l ((i : Nat) : Int) l.length).length c60) M64, .at 28 ((bif t77 then 1 else 2), .val (sli b78 0 ((0 + (refRow .to l ((i : Nat) : Int) l.length).length)) c79), M80), ttL 38 (sli mb mo mk mc), ttT 42, ttL 46 (i64 e.f), ttF 49, ttL 55 (sli mb mo mk mc), ttT 59, ttL 63 (i64 e.t), ttF 66, ttV 72 (.slice a96 (refRow .fr l ((i : Nat) : Int) l.length).length c97) M101, ttV 76 (.bool true) M116, ttV 86 (.slice a130 (refRow .to l ((i : Nat) : Int) l.length).length c131) M135, ttV 90 (.bool true) M151, ttV 102 (i64 (modesI (adjM n l) ((i : Nat) : Int))) M168, ttV 108 (i64 (modesI (adjM n (l ++ [e])) ((i : Nat) : Int))) M185, ttF 115] [11, 12, 13, 14, 15, 16] = some (.normal, [some (pt q 0), some (pt p 0), some (pt ab 0), some (pt bb 0), some (i64 (((l.length : Nat) : Int))), some (i64 (IntKind.wrap .i64 ((((i : Nat) : Int)) + (1 : Int))))], M185, [qL 3 q 0 M (i64 (((n : Nat) : Int))), qT (decide ((((i : Nat) : Int)) < (((n : Nat) : Int)))), .eq (abuildSlice Try.prog 22 0 [] M) (1, .val (sli b1 0 0 1), M2), qC 13 [(pt ab 0), (i64 (((i : Nat) : Int)))] M2 (.slice a12 (refRow .fr l ((i : Nat) : Int) l.length).length c13) M17, .q (.append [22, 22] (sli b1 0 0 1) (.slice a12 (refRow .fr l ((i : Nat) : Int) l.length).length c13) M17) ((bif t29 then 1 else 2), .val (sli b30 0 ((0 + (refRow .fr l ((i : Nat) : Int) l.length).length)) c31), M32), .eq (abuildSlice Try.prog 22 0 [] M32) (1, .val (sli b47 0 0 1), M48), qC 14 [(pt ab 0), (i64 (((i : Nat) : Int)))] M48 (.slice a59 (refRow .to l ((i : Nat) : Int) l.length).length c60) M64, .q (.append [22, 22] (sli b47 0 0 1) (.slice a59 (refRow .to l ((i : Nat) : Int) l.length).length c60) M64) ((bif t77 then 1 else 2), .val (sli b78 0 ((0 + (refRow .to l ((i : Nat) : Int) l.length).length)) c79), M80), qL 24 p 1 M80 (sli mb mo mk mc), .q (.inb (((l.length : Nat) : Int)) mk) (ansB true), qL 3 mb (mo + (((l.length : Nat) : Int) : Int).toNat * 4) M80 (i64 e.f), qF ((((i : Nat) : Int)) == e.f), qL 24 p 1 M80 (sli mb mo mk mc), .q (.inb (((l.length : Nat) : Int)) mk) (ansB true), qL 3 mb (mo + (((l.length : Nat) : Int) : Int).toNat * 4 + 1) M80 (i64 e.t), qF ((((i : Nat) : Int)) == e.t), qC 13 [(pt bb 0), (i64 (((i : Nat) : Int)))] M80 (.slice a96 (refRow .fr l ((i : Nat) : Int) l.length).length c97) M101, qC 20 [(.slice a96 (refRow .fr l ((i : Nat) : Int) l.length).length c97), (sli b30 0 ((0 + (refRow .fr l ((i : Nat) : Int) l.length).length)) c31)] M101 (.bool true) M116, qC 14 [(pt bb 0), (i64 (((i : Nat) : Int)))] M116 (.slice a130 (refRow .to l ((i : Nat) : Int) l.length).length c131) M135, qC 20 [(.slice a130 (refRow .to l ((i : Nat) : Int) l.length).length c131), (sli b78 0 ((0 + (refRow .to l ((i : Nat) : Int) l.length).length)) c79)] M135 (.bool true) M151, qC 18 [(pt ab 0), (i64 (((i : Nat) : Int)))] M151 (i64 (modesI (adjM n l) ((i : Nat) : Int))) M168, qC 18 [(pt bb 0), (i64 (((i : Nat) : Int)))] M168 (i64 (modesI (adjM n (l ++ [e])) ((i : Nat) : Int))) M185, qF (!((anI (modesI (adjM n l) ((i : Nat) : Int)) (modesI (adjM n (l ++ [e])) ((i : Nat) : Int))) == (0 : Int)))]) := by cases t29 <;> cases t77 <;> kernel_rfl
theorem r9ff (q p ab bb mb mo mk mc n i : Nat) (VE : Value) (l : List E4) (e : E4) {M M0 : Mem} (hM : MemOk M) (X0 : Ext M0 M) (gq : M.get q = some ⟨[i64 ((n : Nat) : Int), VE], 26, 2, 0, true⟩) (gp : M.get p = some ⟨[i64 ((n : Nat) : Int), (sli mb mo mk mc)], 26, 2, 0, true⟩) (hA_ : pAdj 48 (adjM n l) (pt ab 0) M0) (hB_ : pAdj 48 (adjM n (l ++ [e])) (pt bb 0) M0) (hckA : chkN ((n : Nat) : Int) l = true) (hckB : chkN ((n : Nat) : Int) (l ++ [e]) = true) (hl400 : l.length ≤ 400) (dpq : q ≠ p) (cc0 : (decide ((((i : Nat) : Int)) < (((n : Nat) : Int)))) = true) (cc1 : ((((i : Nat) : Int)) == e.f) = false) (cc2 : ((((i : Nat) : Int)) == e.t) = false) (cc3 : ((anI (modesI (adjM n l) ((i : Nat) : Int)) (modesI (adjM n (l ++ [e])) ((i : Nat) : Int))) == (0 : Int)) = true) (hi0 : 0 ≤ (((l.length : Nat) : Int) : Int) ∧ (((l.length : Nat) : Int) : Int) < mk) (hld1 : aload Try.prog 3 ⟨mb, mo + (((l.length : Nat) : Int) : Int).toNat * 4, none⟩ M0 = some (i64 e.f)) (hld2 : aload Try.prog 3 ⟨mb, mo + (((l.length : Nat) : Int) : Int).toNat * 4 + 1, none⟩ M0 = some (i64 e.t)) : ∃ T1 M', Rd Try.prog [] (q9.loopAt 0) Try.f9.ntmps (fr [(11, (pt q 0)), (12, (pt p 0)), (13, (pt ab 0)), (14, (pt bb 0)), (15, (i64 (((l.length : Nat) : Int)))), (16, (i64 (((i : Nat) : Int))))]) M .normal T1 M' ∧ [11, 12, 13, 14, 15, 16].map T1.get = [some (pt q 0), some (pt p 0), some (pt ab 0), some (pt bb 0), some (i64 (((l.length : Nat) : Int))), some (i64 (IntKind.wrap .i64 ((((i : Nat) : Int)) + (1 : Int))))] ∧ Ext M0 M' ∧ MemOk M' ∧ M'.get q = some ⟨[(i64 (((n : Nat) : Int))), VE], 26, 2, 0, true⟩ ∧ M'.get p = some ⟨[(i64 (((n : Nat) : Int))), (sli mb mo mk mc)], 26, 2, 0, true⟩ := by
  obtain ⟨b1, M2, eb3, em4, g5, E6, hM7⟩ := new_t hM ⟨[], 3, 1, 0, true⟩
  have nb1 : M0.next ≤ b1 := by rw [← eb3]; exact X0.next
  have dqb1 : q ≠ b1 := by have := Mem.lt_of_get gq; omega
  have dpb1 : p ≠ b1 := by have := Mem.lt_of_get gp; omega
  have g8 := E6.old gq
  have g9 := E6.old gp
  have nx10 := E6.next
  have X11 := X0.trans E6
  obtain ⟨w15, N16, M17, p18, l19, e20, E21, hM22, F23⟩ := call_fc (x := ((adjM n l), ((i : Nat) : Int))) hM7 con13 (⟨⟨_, _, rfl, AP.Ext (R := (pAdj 48)) hA_ X11, rfl⟩, okA_adjM hckA⟩)
  have nx24 := E21.next
  have g25 := E21.old g8
  have g26 := E21.old g9
  have g27 := E21.old g5
  have G14 : pInts (refRow .fr l ((i : Nat) : Int) l.length) w15 M17 := by rw [← out_eq hckA ⟨by omega, by simp at cc0; omega⟩]; exact newR.out (R := pInts) F23
  obtain ⟨a12, c13, ew15⟩ := GRowsAt.form G14
  subst ew15
  have X28 := X11.trans E21
  obtain ⟨t29, b30, c31, M32, q33, X34, hM35, nb30, g36, hs37, hl38, kp39, fr40, t41, t42, nx43, lg44⟩ := own_app (P := Try.prog) (sT := 22) (xT := 22) (y := 8) (w := 1) (n := 0) (c := 1) (cs := ([] : List Value)) X28 (.inl ⟨rfl, rfl, rfl⟩) rfl nb1 g27 hM22 (by kernel_rfl) (by kernel_rfl) (by kernel_rfl) (by kernel_rfl) (by decide) (by decide) rfl G14 (by have := refRow_len .fr l ((i : Nat) : Int) l.length; omega) (fun _ _ => rfl)
  have g45 := kp39 _ _ g25 dqb1
  have dqb30 : q ≠ b30 := (fr40).elim (fun hh => by rw [hh]; exact dqb1) (fun hh => by have := Mem.lt_of_get g25; omega)
  have g46 := kp39 _ _ g26 dpb1
  have dpb30 : p ≠ b30 := (fr40).elim (fun hh => by rw [hh]; exact dpb1) (fun hh => by have := Mem.lt_of_get g26; omega)
  obtain ⟨b47, M48, eb49, em50, g51, E52, hM53⟩ := new_t hM35 ⟨[], 3, 1, 0, true⟩
  have nb47 : M0.next ≤ b47 := by rw [← eb49]; exact X34.next
  have dqb47 : q ≠ b47 := by have := Mem.lt_of_get g45; omega
  have dpb47 : p ≠ b47 := by have := Mem.lt_of_get g46; omega
  have db30b47 : b30 ≠ b47 := by have := Mem.lt_of_get g36; omega
  have g54 := E52.old g45
  have g55 := E52.old g46
  have g56 := E52.old g36
  have nx57 := E52.next
  have X58 := X34.trans E52
  obtain ⟨w62, N63, M64, p65, l66, e67, E68, hM69, F70⟩ := call_fc (x := ((adjM n l), ((i : Nat) : Int))) hM53 con14 (⟨⟨_, _, rfl, AP.Ext (R := (pAdj 48)) hA_ X58, rfl⟩, okA_adjM hckA⟩)
  have nx71 := E68.next
  have g72 := E68.old g54
  have g73 := E68.old g55
  have g74 := E68.old g56
  have g75 := E68.old g51
  have G61 : pInts (refRow .to l ((i : Nat) : Int) l.length) w62 M64 := by rw [← in_eq hckA ⟨by omega, by simp at cc0; omega⟩]; exact newR.out (R := pInts) F70
  obtain ⟨a59, c60, ew62⟩ := GRowsAt.form G61
  subst ew62
  have X76 := X58.trans E68
  obtain ⟨t77, b78, c79, M80, q81, X82, hM83, nb78, g84, hs85, hl86, kp87, fr88, t89, t90, nx91, lg92⟩ := own_app (P := Try.prog) (sT := 22) (xT := 22) (y := 8) (w := 1) (n := 0) (c := 1) (cs := ([] : List Value)) X76 (.inl ⟨rfl, rfl, rfl⟩) rfl nb47 g75 hM69 (by kernel_rfl) (by kernel_rfl) (by kernel_rfl) (by kernel_rfl) (by decide) (by decide) rfl G61 (by have := refRow_len .to l ((i : Nat) : Int) l.length; omega) (fun _ _ => rfl)
  have g93 := kp87 _ _ g72 dqb47
  have dqb78 : q ≠ b78 := (fr88).elim (fun hh => by rw [hh]; exact dqb47) (fun hh => by have := Mem.lt_of_get g72; omega)
  have g94 := kp87 _ _ g73 dpb47
  have dpb78 : p ≠ b78 := (fr88).elim (fun hh => by rw [hh]; exact dpb47) (fun hh => by have := Mem.lt_of_get g73; omega)
  have g95 := kp87 _ _ g74 db30b47
  have db30b78 : b30 ≠ b78 := (fr88).elim (fun hh => by rw [hh]; exact db30b47) (fun hh => by have := Mem.lt_of_get g74; omega)
  obtain ⟨w99, N100, M101, p102, l103, e104, E105, hM106, F107⟩ := call_fc (x := ((adjM n (l ++ [e])), ((i : Nat) : Int))) hM83 con13 (⟨⟨_, _, rfl, AP.Ext (R := (pAdj 48)) hB_ X82, rfl⟩, okA_adjM hckB⟩)
  have nx108 := E105.next
  have g109 := E105.old g93
  have g110 := E105.old g94
  have g111 := E105.old g95
  have g112 := E105.old g84
  have G98 : pInts (refRow .fr l ((i : Nat) : Int) l.length) w99 M101 := by rw [show (refRow .fr l ((i : Nat) : Int) l.length) = refRow .fr (l ++ [e]) ((i : Nat) : Int) (l ++ [e]).length from by rw [more_row, if_neg (show ¬ tellE .fr e = ((i : Nat) : Int) from fun hh => by rw [show (((i : Nat) : Int) == e.f) = true from by rw [show e.f = ((i : Nat) : Int) from hh]; exact beq_self_eq_true _] at cc1; cases cc1)]; rw [List.append_nil]]; rw [← out_eq hckB ⟨by omega, by simp at cc0; omega⟩]; exact newR.out (R := pInts) F107
  obtain ⟨a96, c97, ew99⟩ := GRowsAt.form G98
  subst ew99
  have X113 := X82.trans E105
  obtain ⟨w114, N115, M116, p117, l118, e119, E120, hM121, F122⟩ := call_fc (x := ((refRow .fr l ((i : Nat) : Int) l.length), (refRow .fr l ((i : Nat) : Int) l.length))) hM106 con20 (⟨_, _, rfl, G98, (by refine own_rows (g := iRow) (w := 1) (el := 3) (b := b30) (n := ((0 + (refRow .fr l ((i : Nat) : Int) l.length).length))) (c := c31) (l := (refRow .fr l ((i : Nat) : Int) l.length)) ?_ (by simp) (fun _ _ => rfl) (by have h1 := refRow_len .fr l ((i : Nat) : Int) l.length; first | omega | (simp only [List.length_singleton]; omega)); rw [show (((refRow .fr l ((i : Nat) : Int) l.length)).map iRow).flatten = (([] : List Value) ++ ((refRow .fr l ((i : Nat) : Int) l.length).map iRow).flatten) from by simp]; exact g111)⟩)
  have nx123 := E120.next
  have F124 := AP.Ext (R := pInts) G98 E120
  have g125 := E120.old g109
  have g126 := E120.old g110
  have g127 := E120.old g111
  have g128 := E120.old g112
  have ew114 : w114 = .bool true := (show w114 = .bool (decide ((refRow .fr l ((i : Nat) : Int) l.length) = (refRow .fr l ((i : Nat) : Int) l.length))) from F122).trans (congrArg Value.bool (decide_eq_true rfl))
  subst ew114
  have X129 := X113.trans E120
  obtain ⟨w133, N134, M135, p136, l137, e138, E139, hM140, F141⟩ := call_fc (x := ((adjM n (l ++ [e])), ((i : Nat) : Int))) hM121 con14 (⟨⟨_, _, rfl, AP.Ext (R := (pAdj 48)) hB_ X129, rfl⟩, okA_adjM hckB⟩)
  have nx142 := E139.next
  have F143 := AP.Ext (R := pInts) F124 E139
  have g144 := E139.old g125
  have g145 := E139.old g126
  have g146 := E139.old g127
  have g147 := E139.old g128
  have G132 : pInts (refRow .to l ((i : Nat) : Int) l.length) w133 M135 := by rw [show (refRow .to l ((i : Nat) : Int) l.length) = refRow .to (l ++ [e]) ((i : Nat) : Int) (l ++ [e]).length from by rw [more_row, if_neg (show ¬ tellE .to e = ((i : Nat) : Int) from fun hh => by rw [show (((i : Nat) : Int) == e.t) = true from by rw [show e.t = ((i : Nat) : Int) from hh]; exact beq_self_eq_true _] at cc2; cases cc2)]; rw [List.append_nil]]; rw [← in_eq hckB ⟨by omega, by simp at cc0; omega⟩]; exact newR.out (R := pInts) F141
  obtain ⟨a130, c131, ew133⟩ := GRowsAt.form G132
  subst ew133
  have X148 := X129.trans E139
  obtain ⟨w149, N150, M151, p152, l153, e154, E155, hM156, F157⟩ := call_fc (x := ((refRow .to l ((i : Nat) : Int) l.length), (refRow .to l ((i : Nat) : Int) l.length))) hM140 con20 (⟨_, _, rfl, G132, (by refine own_rows (g := iRow) (w := 1) (el := 3) (b := b78) (n := ((0 + (refRow .to l ((i : Nat) : Int) l.length).length))) (c := c79) (l := (refRow .to l ((i : Nat) : Int) l.length)) ?_ (by simp) (fun _ _ => rfl) (by have h1 := refRow_len .to l ((i : Nat) : Int) l.length; first | omega | (simp only [List.length_singleton]; omega)); rw [show (((refRow .to l ((i : Nat) : Int) l.length)).map iRow).flatten = (([] : List Value) ++ ((refRow .to l ((i : Nat) : Int) l.length).map iRow).flatten) from by simp]; exact g147)⟩)
  have nx158 := E155.next
  have F159 := AP.Ext (R := pInts) F143 E155
  have F160 := AP.Ext (R := pInts) G132 E155
  have g161 := E155.old g144
  have g162 := E155.old g145
  have g163 := E155.old g146
  have g164 := E155.old g147
  have ew149 : w149 = .bool true := (show w149 = .bool (decide ((refRow .to l ((i : Nat) : Int) l.length) = (refRow .to l ((i : Nat) : Int) l.length))) from F157).trans (congrArg Value.bool (decide_eq_true rfl))
  subst ew149
  have X165 := X148.trans E155
  obtain ⟨w166, N167, M168, p169, l170, e171, E172, hM173, F174⟩ := call_fc (x := ((adjM n l), ((i : Nat) : Int))) hM156 con18 (⟨⟨_, _, rfl, AP.Ext (R := (pAdj 48)) hA_ X165, rfl⟩, okA_adjM hckA⟩)
  have nx175 := E172.next
  have F176 := AP.Ext (R := pInts) F159 E172
  have F177 := AP.Ext (R := pInts) F160 E172
  have g178 := E172.old g161
  have g179 := E172.old g162
  have g180 := E172.old g163
  have g181 := E172.old g164
  have ew166 : w166 = (i64 (modesI (adjM n l) ((i : Nat) : Int))) := F174
  subst ew166
  have X182 := X165.trans E172
  obtain ⟨w183, N184, M185, p186, l187, e188, E189, hM190, F191⟩ := call_fc (x := ((adjM n (l ++ [e])), ((i : Nat) : Int))) hM173 con18 (⟨⟨_, _, rfl, AP.Ext (R := (pAdj 48)) hB_ X182, rfl⟩, okA_adjM hckB⟩)
  have nx192 := E189.next
  have F193 := AP.Ext (R := pInts) F176 E189
  have F194 := AP.Ext (R := pInts) F177 E189
  have g195 := E189.old g178
  have g196 := E189.old g179
  have g197 := E189.old g180
  have g198 := E189.old g181
  have ew183 : w183 = (i64 (modesI (adjM n (l ++ [e])) ((i : Nat) : Int))) := F191
  subst ew183
  have X199 := X182.trans E189
  have hraw := r9ff_raw q p ab bb mb mo mk mc n i VE l e M  b1 M2 a12 c13 M17 t29 b30 c31 M32 b47 M48 a59 c60 M64 t77 b78 c79 M80 a96 c97 M101 M116 a130 c131 M135 M151 M168 M185
  obtain ⟨T1, h1, h2⟩ := Rd.told noNumP mixedP (fun B => specsB_ok (k := []) (hS9_13_14_18_20 B) (fun p hp => by cases hp)) (fun _ _ => rfl) hraw (hk (lC dC3 gq rfl) (hk (bT cc0) (hk (q_eq (by rw [← eb3, ← em4]; kernel_rfl) Nat.one_ne_zero) (hk (q_call rfl p18 l19 e20) (hk (q_app q33 (by cases t29 <;> simp)) (hk (q_eq (by rw [← eb49, ← em50]; kernel_rfl) Nat.one_ne_zero) (hk (q_call rfl p65 l66 e67) (hk (q_app q81 (by cases t77 <;> simp)) (hk (lC dC24 g94 rfl) (hk (q_inb hi0.1 hi0.2) (hk (q_ld (aload_ext X82 hld1)) (hk (bF cc1) (hk (lC dC24 g94 rfl) (hk (q_inb hi0.1 hi0.2) (hk (q_ld (aload_ext X82 hld2)) (hk (bF cc2) (hk (q_call rfl p102 l103 e104) (hk (q_call rfl p117 l118 e119) (hk (q_call rfl p136 l137 e138) (hk (q_call rfl p152 l153 e154) (hk (q_call rfl p169 l170 e171) (hk (q_call rfl p186 l187 e188) (hk (bF (by rw [cc3]; rfl)) hn)))))))))))))))))))))))
  exact ⟨T1, M185, h1, h2, X199, hM190, g195, g196⟩
theorem r9x_raw (q p ab bb mb mo mk mc n i : Nat) (VE : Value) (l : List E4) (e : E4) (M : Mem)  : oR Try.prog [] 60 Try.f9 (q9.loopAt 0) [(11, (pt q 0)), (12, (pt p 0)), (13, (pt ab 0)), (14, (pt bb 0)), (15, (i64 (((l.length : Nat) : Int)))), (16, (i64 (((i : Nat) : Int))))] M [ttL 5 (i64 (((n : Nat) : Int))), ttF 8] [] = some ((.exit 0), [], M, [qL 3 q 0 M (i64 (((n : Nat) : Int))), qF (decide ((((i : Nat) : Int)) < (((n : Nat) : Int))))]) := by kernel_rfl
theorem r9x (q p ab bb mb mo mk mc n i : Nat) (VE : Value) (l : List E4) (e : E4) {M : Mem} (gq : M.get q = some ⟨[i64 ((n : Nat) : Int), VE], 26, 2, 0, true⟩) (gp : M.get p = some ⟨[i64 ((n : Nat) : Int), (sli mb mo mk mc)], 26, 2, 0, true⟩) (cc0 : (decide ((((i : Nat) : Int)) < (((n : Nat) : Int)))) = false) : ∃ T1, Rd Try.prog [] (q9.loopAt 0) Try.f9.ntmps (fr [(11, (pt q 0)), (12, (pt p 0)), (13, (pt ab 0)), (14, (pt bb 0)), (15, (i64 (((l.length : Nat) : Int)))), (16, (i64 (((i : Nat) : Int))))]) M (.exit 0) T1 M ∧ [].map T1.get = [] := by
  have hraw := r9x_raw q p ab bb mb mo mk mc n i VE l e M  
  obtain ⟨T1, h1, h2⟩ := Rd.told noNumP mixedP (specs_none Try.prog) (fun _ _ => rfl) hraw (hk (lC dC3 gq rfl) (hk (bF cc0) hn))
  exact ⟨T1, h1, h2⟩
theorem loop9o {q p ab bb mc n : Nat} {am : Option Addr} {VE : Value} {l : List E4} {e : E4} {M : Mem} (hM : MemOk M) (gq : M.get q = some ⟨[i64 ((n : Nat) : Int), VE], 26, 2, 0, true⟩) (gp : M.get p = some ⟨[i64 ((n : Nat) : Int), .slice am (l ++ [e]).length mc], 26, 2, 0, true⟩) (hA_ : pAdj 48 (adjM n l) (pt ab 0) M) (hB_ : pAdj 48 (adjM n (l ++ [e])) (pt bb 0) M) (hm : pEdges (l ++ [e]) (.slice am (l ++ [e]).length mc) M) (hckA : chkN ((n : Nat) : Int) l = true) (hckB : chkN ((n : Nat) : Int) (l ++ [e]) = true) (dpq : q ≠ p) :
    ∃ M', LoopR Try.prog [] (q9.loopAt 0) Try.f9.ntmps (fr [(11, pt q 0), (12, pt p 0), (13, pt ab 0), (14, pt bb 0), (15, i64 ((l.length : Nat) : Int)), (16, i64 ((0 : Nat) : Int))]) M (.exit 0) (fr []) M' ∧ Ext M M' ∧ MemOk M' := by
  obtain ⟨_, hn60, hl400, _⟩ := chkN_spec hckA
  obtain ⟨mb, mo, rfl, _⟩ := form_pos hm (by simp)
  have hat : (l ++ [e])[l.length]? = some e := by simp
  have l1 := ld_cell (P := Try.prog) (ty := 3) (j := 0) hm hat rfl dC3
  have l2 := ld_cell (P := Try.prog) (ty := 3) (j := 1) hm hat rfl dC3
  have hlt : l.length < (l ++ [e]).length := by simp
  obtain ⟨_, M', h1, h2, h3, _⟩ := LoopR.for (P := Try.prog) (GL := []) (b := q9.loopAt 0) (nt := Try.f9.ntmps) (id := 0) (σ := Unit) (n := n) (Inv := fun i _ M1 => Ext M M1 ∧ MemOk M1 ∧ M1.get q = some ⟨[i64 ((n : Nat) : Int), VE], 26, 2, 0, true⟩ ∧ M1.get p = some ⟨[i64 ((n : Nat) : Int), .slice (some ⟨mb, mo, none⟩) (l ++ [e]).length mc], 26, 2, 0, true⟩)
    (F := fun i _ => [(11, pt q 0), (12, pt p 0), (13, pt ab 0), (14, pt bb 0), (15, i64 ((l.length : Nat) : Int)), (16, i64 ((i : Nat) : Int))]) (O := fun _ => [])
    (by
      rintro i _ M1 hi ⟨X1, hM1, hg, hp⟩
      have hz : (anI (modesI (adjM n l) ((i : Nat) : Int)) (modesI (adjM n (l ++ [e])) ((i : Nat) : Int)) == (0 : Int)) = true := by rw [more_modes hckA hckB (by omega)]; rfl
      cases hf : (((i : Nat) : Int) == e.f) <;> cases ht : (((i : Nat) : Int) == e.t)
      · obtain ⟨T1, M2, h1, h2, h3, h4, h5, h6⟩ := r9ff q p ab bb mb mo (l ++ [e]).length mc n i VE l e hM1 X1 hg hp hA_ hB_ hckA hckB hl400 dpq (decide_eq_true (by omega)) hf ht hz (by omega) l1 l2
        rw [wrap_succ (by omega)] at h2
        exact ⟨(), T1, M2, h1, h2, h3, h4, h5, h6⟩
      · obtain ⟨T1, M2, h1, h2, h3, h4, h5, h6⟩ := r9ft q p ab bb mb mo (l ++ [e]).length mc n i VE l e hM1 X1 hg hp hA_ hB_ hckA hckB hl400 dpq (decide_eq_true (by omega)) hf ht hz (by omega) l1 l2
        rw [wrap_succ (by omega)] at h2
        exact ⟨(), T1, M2, h1, h2, h3, h4, h5, h6⟩
      · obtain ⟨T1, M2, h1, h2, h3, h4, h5, h6⟩ := r9tf q p ab bb mb mo (l ++ [e]).length mc n i VE l e hM1 X1 hg hp hA_ hB_ hckA hckB hl400 dpq (decide_eq_true (by omega)) hf ht hz (by omega) l1 l2
        rw [wrap_succ (by omega)] at h2
        exact ⟨(), T1, M2, h1, h2, h3, h4, h5, h6⟩
      · obtain ⟨T1, M2, h1, h2, h3, h4, h5, h6⟩ := r9tt q p ab bb mb mo (l ++ [e]).length mc n i VE l e hM1 X1 hg hp hA_ hB_ hckA hckB hl400 dpq (decide_eq_true (by omega)) hf ht hz (by omega) l1 l2
        rw [wrap_succ (by omega)] at h2
        exact ⟨(), T1, M2, h1, h2, h3, h4, h5, h6⟩)
    (by
      rintro _ M1 ⟨X1, hM1, hg, hp⟩
      exact r9x q p ab bb mb mo (l ++ [e]).length mc n n VE l e (M := M1) hg hp (decide_eq_false (by omega)))
    n 0 (by omega) (s := ()) (M := M) ⟨Ext.refl M, hM, gq, gp⟩
  exact ⟨M', h1, h2, h3⟩
theorem rK9 : Try.f9.results = #[.tmp 10] := by kernel_rfl
theorem hS9_10_11_12_15 (B : Bd) : ∀ p ∈ ([(10, pick (Con Try.prog [] 10 Q10)), (11, pick (Con Try.prog [] 11 Q11)), (12, pick (Con Try.prog [] 12 Q12)), (15, pick (Con Try.prog [] 15 Q15))] : List (FuncId × (List Value → Mem → Option (Value × Mem)))), SpecOk Try.prog [] B p.1 p.2 := (fun p hp => by simp only [List.mem_cons, List.not_mem_nil, or_false] at hp; rcases hp with rfl | rfl | rfl | rfl <;> first | exact Con.ok _ | exact TC.ok _)
theorem w9z_raw (size : Int) (ans : Option Addr) (cns : Nat) (ns : List Int) (fro tto mde : Int) (M : Mem) (M3 : Mem) (a12 : Option Addr) (c13 : Nat) (M18 : Mem) (b27 : Nat) (M28 : Mem) (M37 : Mem) (b52 : Nat) (M53 : Mem) (b65 : Nat) (c66 : Nat) (M67 : Mem) (M85 : Mem) (M100 : Mem) (M115 : Mem) (b128 : Nat) (M129 : Mem) (b142 : Nat) (c143 : Nat) (M144 : Mem) (b161 : Nat) (M162 : Mem) (M175 : Mem) (ab206 : Nat) (M210 : Mem) (ab225 : Nat) (M229 : Mem) (M257 : Mem) : oT Try.prog [0] 140 Try.f9 q9 [(i64 size), (.slice ans ns.length cns), (i64 fro), (i64 tto), (i64 mde)] M [ttV 3 (.bool true) M3, ttV 12 (.agg ⟨[(i64 ((((nMk size) : Nat) : Int))), (.slice a12 (mkL size ns 2).length c13)]⟩) M18, ttV 14 (pt b27 0) M28, ttS 16 M37, ttL 20 (i64 ((((nMk size) : Nat) : Int))), ttV 22 (sli b52 0 0 1) M53, ttL 26 (.slice a12 (mkL size ns 2).length c13), .at 28 (1, .val (sli b65 0 ((0 + (mkL size ns 2).length)) c66), M67), ttL 34 (i64 ((((nMk size) : Nat) : Int))), ttV 36 (i64 (modI fro ((((nMk size) : Nat) : Int)))) M85, ttL 42 (i64 ((((nMk size) : Nat) : Int))), ttV 44 (i64 (modI tto ((((nMk size) : Nat) : Int)))) M100, ttV 48 (i64 (modI mde (5 : Int))) M115, ttV 52 (sli b128 0 1 2) M129, .at 54 (1, .val (sli b142 0 (((0 + (mkL size ns 2).length) + [(⟨modI fro (((nMk size) : Nat) : Int), modI tto (((nMk size) : Nat) : Int), modI mde 5, 0⟩ : E4)].length)) c143), M144), ttV 58 (pt b161 0) M162, ttS 60 M175, ttL 62 (.agg ⟨[(i64 ((((nMk size) : Nat) : Int))), (.slice a12 (mkL size ns 2).length c13)]⟩), ttV 64 (pt ab206 0) M210, ttL 66 (.agg ⟨[(i64 ((((nMk size) : Nat) : Int))), (sli b142 0 (((0 + (mkL size ns 2).length) + [(⟨modI fro (((nMk size) : Nat) : Int), modI tto (((nMk size) : Nat) : Int), modI mde 5, 0⟩ : E4)].length)) c143)]⟩), ttV 68 (pt ab225 0) M229, ttL 89 (.slice a12 (mkL size ns 2).length c13), ttT 91, .blk 96 [11, 12, 13, 14, 15, 16] .normal (fr []) M257] 10 = some (.ret, some (.bool true), M257, [qC 10 [] M (.bool true) M3, qC 11 [(i64 size), (.slice ans ns.length cns), (i64 2)] M3 (.agg ⟨[(i64 ((((nMk size) : Nat) : Int))), (.slice a12 (mkL size ns 2).length c13)]⟩) M18, .eq (aalloc Try.prog 26 M18) (1, .val (pt b27 0), M28), qS 26 b27 0 (.agg ⟨[(i64 ((((nMk size) : Nat) : Int))), (.slice a12 (mkL size ns 2).length c13)]⟩) M28 M37, qL 3 b27 0 (Mem.mk M37.blks M37.next M37.hide []) (i64 ((((nMk size) : Nat) : Int))), qT (Nat.blt b27 M37.next), .eq (abuildSlice Try.prog 24 0 [] (Mem.mk M37.blks M37.next M37.hide [])) (1, .val (sli b52 0 0 1), M53), qL 24 b27 1 (Mem.mk M53.blks M53.next (hides 8 [⟨2, 1, M37.next, M53.next⟩] ++ M37.hide) M53.log) (.slice a12 (mkL size ns 2).length c13), .q (.append [24, 24] (sli b52 0 0 1) (.slice a12 (mkL size ns 2).length c13) (Mem.mk M53.blks M53.next M37.hide M53.log)) (1, .val (sli b65 0 ((0 + (mkL size ns 2).length)) c66), M67), qL 3 b27 0 (Mem.mk M67.blks M67.next (hides 128 [⟨5, 1, M53.next, M67.next⟩, ⟨4, 1, M53.next, M53.next⟩, ⟨2, 1, M37.next, M53.next⟩] ++ M37.hide) M67.log) (i64 ((((nMk size) : Nat) : Int))), qT (Nat.blt b27 M37.next), qC 15 [(i64 fro), (i64 ((((nMk size) : Nat) : Int)))] (Mem.mk M67.blks M67.next M37.hide M67.log) (i64 (modI fro ((((nMk size) : Nat) : Int)))) M85, qL 3 b27 0 (Mem.mk M85.blks M85.next (hides 2048 [⟨9, 1, M67.next, M85.next⟩, ⟨5, 1, M53.next, M67.next⟩, ⟨4, 1, M53.next, M53.next⟩, ⟨2, 1, M37.next, M53.next⟩] ++ M37.hide) M85.log) (i64 ((((nMk size) : Nat) : Int))), qT (Nat.blt b27 M37.next), qC 15 [(i64 tto), (i64 ((((nMk size) : Nat) : Int)))] (Mem.mk M85.blks M85.next M37.hide M85.log) (i64 (modI tto ((((nMk size) : Nat) : Int)))) M100, qC 15 [(i64 mde), (i64 5)] (Mem.mk M100.blks M100.next M37.hide M100.log) (i64 (modI mde (5 : Int))) M115, .eq (abuildSlice Try.prog 24 1 [(0, (.agg ⟨[(i64 (modI fro ((((nMk size) : Nat) : Int)))), (i64 (modI tto ((((nMk size) : Nat) : Int)))), (i64 (modI mde (5 : Int))), (i64 0)]⟩))] (Mem.mk M115.blks M115.next M37.hide M115.log)) (1, .val (sli b128 0 1 2), M129), .q (.append [24, 24] (sli b65 0 ((0 + (mkL size ns 2).length)) c66) (sli b128 0 1 2) (Mem.mk M129.blks M129.next M37.hide M129.log)) (1, .val (sli b142 0 (((0 + (mkL size ns 2).length) + [(⟨modI fro (((nMk size) : Nat) : Int), modI tto (((nMk size) : Nat) : Int), modI mde 5, 0⟩ : E4)].length)) c143), M144), .eq (aalloc Try.prog 26 (Mem.mk M144.blks M144.next (hides 0 [⟨18, 1, M129.next, M144.next⟩, ⟨17, 1, M115.next, M129.next⟩, ⟨15, 1, M100.next, M115.next⟩, ⟨13, 1, M85.next, M100.next⟩, ⟨9, 1, M67.next, M85.next⟩, ⟨5, 1, M53.next, M67.next⟩, ⟨4, 1, M53.next, M53.next⟩, ⟨2, 1, M37.next, M53.next⟩] ++ M37.hide) M144.log)) (1, .val (pt b161 0), M162), qS 26 b161 0 (.agg ⟨[(i64 ((((nMk size) : Nat) : Int))), (sli b142 0 (((0 + (mkL size ns 2).length) + [(⟨modI fro (((nMk size) : Nat) : Int), modI tto (((nMk size) : Nat) : Int), modI mde 5, 0⟩ : E4)].length)) c143)]⟩) (Mem.mk M162.blks M162.next M37.hide M162.log) M175, qT (apartN [b27, b27, b27] M175.log), qL 26 b27 0 (Mem.mk M175.blks M175.next M37.hide []) (.agg ⟨[(i64 ((((nMk size) : Nat) : Int))), (.slice a12 (mkL size ns 2).length c13)]⟩), qC 12 [(.agg ⟨[(i64 ((((nMk size) : Nat) : Int))), (.slice a12 (mkL size ns 2).length c13)]⟩)] (Mem.mk M175.blks M175.next M37.hide []) (pt ab206 0) M210, qL 26 b161 0 (Mem.mk M210.blks M210.next (hides 0 [⟨1, 1, M175.next, M210.next⟩, ⟨0, 1, M175.next, M175.next⟩] ++ M37.hide) M210.log) (.agg ⟨[(i64 ((((nMk size) : Nat) : Int))), (sli b142 0 (((0 + (mkL size ns 2).length) + [(⟨modI fro (((nMk size) : Nat) : Int), modI tto (((nMk size) : Nat) : Int), modI mde 5, 0⟩ : E4)].length)) c143)]⟩), qT (Nat.blt b161 M175.next), qC 12 [(.agg ⟨[(i64 ((((nMk size) : Nat) : Int))), (sli b142 0 (((0 + (mkL size ns 2).length) + [(⟨modI fro (((nMk size) : Nat) : Int), modI tto (((nMk size) : Nat) : Int), modI mde 5, 0⟩ : E4)].length)) c143)]⟩)] (Mem.mk M210.blks M210.next M37.hide M210.log) (pt ab225 0) M229, qT (apartN [b161] M229.log), qL 24 b27 1 (Mem.mk M229.blks M229.next M37.hide (M229.log ++ (M175.log ++ M37.log))) (.slice a12 (mkL size ns 2).length c13), .ln a12 (mkL size ns 2).length c13, .blk 0 (.loop (q9.loopAt 0)) Try.f9.ntmps [11, 12, 13, 14, 15, 16] [some (pt b27 0), some (pt b161 0), some (pt ab206 0), some (pt ab225 0), some (i64 ((((mkL size ns 2).length : Nat) : Int))), some (i64 0)] (Mem.mk M229.blks M229.next M37.hide (M229.log ++ (M175.log ++ M37.log))) .normal (fr []) M257]) := by kernel_rfl
theorem w9z (size : Int) (ans : Option Addr) (cns : Nat) (ns : List Int) (fro tto mde : Int) {M : Mem} (hM : MemOk M) (hns : pInts ns (.slice ans ns.length cns) M) (hlm : (mkL size ns 2).length = 0) (hckB : chkN (((nMk size) : Nat) : Int) ((mkL size ns 2) ++ [(⟨modI fro (((nMk size) : Nat) : Int), modI tto (((nMk size) : Nat) : Int), modI mde 5, 0⟩ : E4)]) = true) : ∃ v_ M', Ev Try.prog [] 9 [(i64 size), (.slice ans ns.length cns), (i64 fro), (i64 tto), (i64 mde)] M v_ M' ∧ Ext M M' ∧ MemOk M' ∧ v_ = .bool true := by
  obtain ⟨w1, N2, M3, p4, l5, e6, E7, hM8, F9⟩ := call_fc (x := ()) hM con10 (rfl)
  have nx10 := E7.next
  have ew1 : w1 = (.bool true) := F9
  subst ew1
  have X11 := (Ext.refl M).trans E7
  obtain ⟨w16, N17, M18, p19, l20, e21, E22, hM23, F24⟩ := call_fc (x := (size, ns, 2)) hM8 con11 (⟨_, _, _, rfl, rfl, AP.Ext (R := pInts) hns X11, rfl⟩)
  have nx25 := E22.next
  obtain ⟨L15, ew16, G14⟩ : pNetN ((nMk size), (mkL size ns 2)) w16 (hidx [(0, M3.next)] M18) := hx_of F24
  simp only at ew16 G14
  obtain ⟨a12, c13, eL15⟩ := GRowsAt.form G14
  subst eL15
  subst ew16
  have X26 := X11.trans E22
  obtain ⟨b27, M28, eb29, em30, g31, E32, hM33⟩ := new_t hM23 ⟨[(i64 0), sln], 26, 2, 0, true⟩
  have nb27 : M.next ≤ b27 := by rw [← eb29]; exact X26.next
  have F34 := hx_new (R := pEdges) G14 eb29 E32
  have nx35 := E32.next
  have X36 := X26.trans E32
  obtain ⟨M37, q38, g39, kp40, X41, hM42, nx43⟩ := store_t (o := 0) (v := (.agg ⟨[(i64 ((((nMk size) : Nat) : Int))), (.slice a12 (mkL size ns 2).length c13)]⟩)) (new := [(i64 ((((nMk size) : Nat) : Int))), (.slice a12 (mkL size ns 2).length c13)]) X36 nb27 hM33 dS26 g31 rfl rfl (Nat.zero_le _) (Nat.le_of_ble_eq_true rfl) rfl
  replace g39 : M37.get b27 = some ⟨[(i64 ((((nMk size) : Nat) : Int))), (.slice a12 (mkL size ns 2).length c13)], 26, 2, 0, true⟩ := g39
  have F44 := hx_keep (R := pEdges) F34 (fun id h _ => kp40 id h) (by intro id hh; simp only [hidden_con] at hh; omega)
  obtain ⟨R45, eR46⟩ : ∃ m : Mem, m = Mem.mk M37.blks M37.next M37.hide [] := ⟨_, rfl⟩
  have X47 : Ext (Mem.mk M.blks M.next M.hide []) R45 := by rw [eR46]; exact Ext.aside (X41)
  have lg48 : R45.log = [] := by rw [eR46]
  have nxR45 : R45.next = M37.next := by rw [eR46]
  have hM49 : MemOk R45 := by rw [eR46]; exact MemOk.log hM42
  have ltb27M37 : b27 < M37.next := by have h := Mem.lt_of_get g39; exact h
  have g50 : R45.get b27 = some ⟨[(i64 ((((nMk size) : Nat) : Int))), (.slice a12 (mkL size ns 2).length c13)], 26, 2, 0, true⟩ := by rw [eR46]; exact g39
  have F51 := hx_still (R := pEdges) (M' := R45) F44 (fun id b h => by rw [eR46]; exact h)
  obtain ⟨b52, M53, eb54, em55, g56, E57, hM58⟩ := new_t hM49 ⟨[], 32, 4, 0, true⟩
  have nb52 : M.next ≤ b52 := by rw [← eb54]; exact X47.next
  have db27b52 : b27 ≠ b52 := by have := Mem.lt_of_get g50; omega
  have F59 := hx_new (R := pEdges) F51 eb54 E57
  have g60 := E57.old g50
  have lg61 : M53.log = [] := by rw [← em55]; exact lg48
  have nx62 := E57.next
  have X63 := X47.trans E57
  obtain ⟨t64, b65, c66, M67, q68, X69, hM70, nb65, g71, hs72, hl73, kp74, fr75, t76, t77, nx78, lg79⟩ := own_app (P := Try.prog) (sT := 24) (xT := 24) (y := 32) (w := 4) (n := 0) (c := 1) (cs := ([] : List Value)) X63 (.inl ⟨rfl, rfl, rfl⟩) rfl nb52 g56 hM58 (by kernel_rfl) (by kernel_rfl) (by kernel_rfl) (by kernel_rfl) (by decide) (by decide) rfl (hx_out (R := pEdges) F59) (by have := (chkN_spec (mk_chk size ns 2)).2.2.1; omega) (fun _ _ => rfl)
  obtain rfl : t64 = true := t76 (by omega)
  have lg80 : M67.log = [] := by rw [lg79, lg61]; rfl
  have ltownb65 : b65 < M67.next := Mem.lt_of_get g71
  have g81 := kp74 _ _ g60 db27b52
  have db27b65 : b27 ≠ b65 := (fr75).elim (fun hh => by rw [hh]; exact db27b52) (fun hh => by have := Mem.lt_of_get g60; omega)
  have F82 := hx_own (R := pEdges) (n' := M67.next) F59 (fun id b hh h => kp74 id b h (by simp only [hidden_con] at hh; omega))
  obtain ⟨w83, N84, M85, p86, l87, e88, E89, hM90, F91⟩ := call_fc (x := (fro, (((nMk size) : Nat) : Int))) hM70 con15 (⟨⟨_, _, rfl, rfl, rfl⟩, (by have := nMk_range size; simp; omega)⟩)
  have nx92 := E89.next
  have F93 := hx_ext (R := pEdges) F82 E89
  have g94 := E89.old g81
  have g95 := E89.old g71
  have ew83 : w83 = (i64 (modI fro ((((nMk size) : Nat) : Int)))) := F91
  subst ew83
  have lg96 : M85.log = [] := by rw [← e88]; exact lg80
  have X97 := X69.trans E89
  obtain ⟨w98, N99, M100, p101, l102, e103, E104, hM105, F106⟩ := call_fc (x := (tto, (((nMk size) : Nat) : Int))) hM90 con15 (⟨⟨_, _, rfl, rfl, rfl⟩, (by have := nMk_range size; simp; omega)⟩)
  have nx107 := E104.next
  have F108 := hx_ext (R := pEdges) F93 E104
  have g109 := E104.old g94
  have g110 := E104.old g95
  have ew98 : w98 = (i64 (modI tto ((((nMk size) : Nat) : Int)))) := F106
  subst ew98
  have lg111 : M100.log = [] := by rw [← e103]; exact lg96
  have X112 := X97.trans E104
  obtain ⟨w113, N114, M115, p116, l117, e118, E119, hM120, F121⟩ := call_fc (x := (mde, (5 : Int))) hM105 con15 (⟨⟨_, _, rfl, rfl, rfl⟩, rfl⟩)
  have nx122 := E119.next
  have F123 := hx_ext (R := pEdges) F108 E119
  have g124 := E119.old g109
  have g125 := E119.old g110
  have ew113 : w113 = (i64 (modI mde (5 : Int))) := F121
  subst ew113
  have lg126 : M115.log = [] := by rw [← e118]; exact lg111
  have X127 := X112.trans E119
  obtain ⟨b128, M129, eb130, em131, g132, E133, hM134⟩ := new_t hM120 ⟨[(i64 (modI fro ((((nMk size) : Nat) : Int)))), (i64 (modI tto ((((nMk size) : Nat) : Int)))), (i64 (modI mde (5 : Int))), (i64 0)], 32, 4, 0, true⟩
  have nb128 : M.next ≤ b128 := by rw [← eb130]; exact X127.next
  have db27b128 : b27 ≠ b128 := by have := Mem.lt_of_get g124; omega
  have db65b128 : b65 ≠ b128 := by have := Mem.lt_of_get g125; omega
  have F135 := hx_new (R := pEdges) F123 eb130 E133
  have g136 := E133.old g124
  have g137 := E133.old g125
  have lg138 : M129.log = [] := by rw [← em131]; exact lg126
  have nx139 := E133.next
  have X140 := X127.trans E133
  obtain ⟨t141, b142, c143, M144, q145, X146, hM147, nb142, g148, hs149, hl150, kp151, fr152, t153, t154, nx155, lg156⟩ := own_app (P := Try.prog) (sT := 24) (xT := 24) (y := 32) (w := 4) (n := (0 + (mkL size ns 2).length)) (c := c66) (cs := (([] : List Value) ++ ((mkL size ns 2).map eRow).flatten)) X140 hs72 hl73 nb65 g137 hM134 (by kernel_rfl) (by kernel_rfl) (by kernel_rfl) (by kernel_rfl) (by decide) (by decide) rfl (own_rows (g := eRow) (c := 2) (l := [(⟨modI fro (((nMk size) : Nat) : Int), modI tto (((nMk size) : Nat) : Int), modI mde 5, 0⟩ : E4)]) g132 rfl (fun _ _ => rfl) (by simp)) (by have := (chkN_spec (mk_chk size ns 2)).2.2.1; simp only [List.length_singleton]; omega) (fun _ _ => rfl)
  obtain rfl : t141 = true := t153 (by omega)
  have lg157 : M144.log = [] := by rw [lg156, lg138]; rfl
  have ltownb142 : b142 < M144.next := Mem.lt_of_get g148
  have g158 := kp151 _ _ g136 db27b65
  have db27b142 : b27 ≠ b142 := (fr152).elim (fun hh => by rw [hh]; exact db27b65) (fun hh => by have := Mem.lt_of_get g136; omega)
  have g159 := kp151 _ _ g132 (Ne.symm db65b128)
  have db128b142 : b128 ≠ b142 := (fr152).elim (fun hh => by rw [hh]; exact (Ne.symm db65b128)) (fun hh => by have := Mem.lt_of_get g132; omega)
  have F160 := hx_own (R := pEdges) (n' := M144.next) F135 (fun id b hh h => kp151 id b h (by simp only [hidden_con] at hh; omega))
  obtain ⟨b161, M162, eb163, em164, g165, E166, hM167⟩ := new_t hM147 ⟨[(i64 0), sln], 26, 2, 0, true⟩
  have nb161 : M.next ≤ b161 := by rw [← eb163]; exact X146.next
  have db27b161 : b27 ≠ b161 := by have := Mem.lt_of_get g158; omega
  have db128b161 : b128 ≠ b161 := by have := Mem.lt_of_get g159; omega
  have db142b161 : b142 ≠ b161 := by have := Mem.lt_of_get g148; omega
  have F168 := hx_new (R := pEdges) F160 eb163 E166
  have g169 := E166.old g158
  have g170 := E166.old g159
  have g171 := E166.old g148
  have lg172 : M162.log = [] := by rw [← em164]; exact lg157
  have nx173 := E166.next
  have X174 := X146.trans E166
  obtain ⟨M175, q176, g177, kp178, X179, hM180, nx181⟩ := store_t (o := 0) (v := (.agg ⟨[(i64 ((((nMk size) : Nat) : Int))), (sli b142 0 (((0 + (mkL size ns 2).length) + [(⟨modI fro (((nMk size) : Nat) : Int), modI tto (((nMk size) : Nat) : Int), modI mde 5, 0⟩ : E4)].length)) c143)]⟩)) (new := [(i64 ((((nMk size) : Nat) : Int))), (sli b142 0 (((0 + (mkL size ns 2).length) + [(⟨modI fro (((nMk size) : Nat) : Int), modI tto (((nMk size) : Nat) : Int), modI mde 5, 0⟩ : E4)].length)) c143)]) X174 nb161 hM167 dS26 g165 rfl rfl (Nat.zero_le _) (Nat.le_of_ble_eq_true rfl) rfl
  replace g177 : M175.get b161 = some ⟨[(i64 ((((nMk size) : Nat) : Int))), (sli b142 0 (((0 + (mkL size ns 2).length) + [(⟨modI fro (((nMk size) : Nat) : Int), modI tto (((nMk size) : Nat) : Int), modI mde 5, 0⟩ : E4)].length)) c143)], 26, 2, 0, true⟩ := g177
  have F182 := hx_keep (R := pEdges) F168 (fun id h _ => kp178 id h) (by intro id hh; simp only [hidden_con] at hh; omega)
  have g183 := (kp178 _ db27b161).trans g169
  have g184 := (kp178 _ db128b161).trans g170
  have g185 := (kp178 _ db142b161).trans g171
  have lg186 : M175.log = [b161] := by rw [nx181, lg172]
  obtain ⟨M187, ef188⟩ : ∃ m : Mem, m = (Mem.mk M175.blks M175.next M175.hide (M175.log ++ M37.log)) := ⟨_, rfl⟩
  have X189 : Ext M M187 := by rw [ef188]; exact Ext.join (X41) (X179)
  have hM190 : MemOk M187 := by rw [ef188]; exact hM180
  have g191 : M187.get b27 = some ⟨[(i64 ((((nMk size) : Nat) : Int))), (.slice a12 (mkL size ns 2).length c13)], 26, 2, 0, true⟩ := by rw [ef188]; exact g183
  have g192 : M187.get b128 = some ⟨[(i64 (modI fro ((((nMk size) : Nat) : Int)))), (i64 (modI tto ((((nMk size) : Nat) : Int)))), (i64 (modI mde (5 : Int))), (i64 0)], 32, 4, 0, true⟩ := by rw [ef188]; exact g184
  have g193 : M187.get b142 = some ⟨((([] : List Value) ++ ((mkL size ns 2).map eRow).flatten) ++ ([(⟨modI fro (((nMk size) : Nat) : Int), modI tto (((nMk size) : Nat) : Int), modI mde 5, 0⟩ : E4)].map eRow).flatten), 32, 4, 0, true⟩ := by rw [ef188]; exact g185
  have g194 : M187.get b161 = some ⟨[(i64 ((((nMk size) : Nat) : Int))), (sli b142 0 (((0 + (mkL size ns 2).length) + [(⟨modI fro (((nMk size) : Nat) : Int), modI tto (((nMk size) : Nat) : Int), modI mde 5, 0⟩ : E4)].length)) c143)], 26, 2, 0, true⟩ := by rw [ef188]; exact g177
  have F195 := hx_still (R := pEdges) (M' := M187) F182 (fun id b h => by rw [ef188]; exact h)
  obtain ⟨R196, eR197⟩ : ∃ m : Mem, m = Mem.mk M187.blks M187.next M187.hide [] := ⟨_, rfl⟩
  have X198 : Ext (Mem.mk M.blks M.next M.hide []) R196 := by rw [eR197]; exact Ext.aside (X189)
  have lg199 : R196.log = [] := by rw [eR197]
  have nxR196 : R196.next = M187.next := by rw [eR197]
  have hM200 : MemOk R196 := by rw [eR197]; exact MemOk.log hM190
  have ltb27M187 : b27 < M175.next := by have h := Mem.lt_of_get g191; rw [ef188] at h; exact h
  have g201 : R196.get b27 = some ⟨[(i64 ((((nMk size) : Nat) : Int))), (.slice a12 (mkL size ns 2).length c13)], 26, 2, 0, true⟩ := by rw [eR197]; exact g191
  have ltb128M187 : b128 < M175.next := by have h := Mem.lt_of_get g192; rw [ef188] at h; exact h
  have g202 : R196.get b128 = some ⟨[(i64 (modI fro ((((nMk size) : Nat) : Int)))), (i64 (modI tto ((((nMk size) : Nat) : Int)))), (i64 (modI mde (5 : Int))), (i64 0)], 32, 4, 0, true⟩ := by rw [eR197]; exact g192
  have ltb142M187 : b142 < M175.next := by have h := Mem.lt_of_get g193; rw [ef188] at h; exact h
  have g203 : R196.get b142 = some ⟨((([] : List Value) ++ ((mkL size ns 2).map eRow).flatten) ++ ([(⟨modI fro (((nMk size) : Nat) : Int), modI tto (((nMk size) : Nat) : Int), modI mde 5, 0⟩ : E4)].map eRow).flatten), 32, 4, 0, true⟩ := by rw [eR197]; exact g193
  have ltb161M187 : b161 < M175.next := by have h := Mem.lt_of_get g194; rw [ef188] at h; exact h
  have g204 : R196.get b161 = some ⟨[(i64 ((((nMk size) : Nat) : Int))), (sli b142 0 (((0 + (mkL size ns 2).length) + [(⟨modI fro (((nMk size) : Nat) : Int), modI tto (((nMk size) : Nat) : Int), modI mde 5, 0⟩ : E4)].length)) c143)], 26, 2, 0, true⟩ := by rw [eR197]; exact g194
  have F205 := hx_still (R := pEdges) (M' := R196) F195 (fun id b h => by rw [eR197]; exact h)
  obtain ⟨w208, N209, M210, p211, l212, e213, E214, hM215, F216⟩ := call_fc (x := ((nMk size), (mkL size ns 2))) hM200 con12 (⟨⟨_, rfl, _, rfl, hx_out (R := pEdges) F205⟩, mk_chk size ns 2⟩)
  have nx217 := E214.next
  have F218 := hx_ext (R := pEdges) F205 E214
  have g219 := E214.old g201
  have g220 := E214.old g202
  have g221 := E214.old g203
  have g222 := E214.old g204
  have G207 : pAdj 48 (adjM (nMk size) (mkL size ns 2)) w208 (hidx [(0, R196.next)] M210) := hx_of F216
  obtain ⟨ab206, _, _, _, _, ew208, _⟩ := id G207
  subst ew208
  have lg223 : M210.log = [] := by rw [← e213]; exact lg199
  have X224 := X198.trans E214
  obtain ⟨w227, N228, M229, p230, l231, e232, E233, hM234, F235⟩ := call_fc (x := ((nMk size), ((mkL size ns 2) ++ [(⟨modI fro (((nMk size) : Nat) : Int), modI tto (((nMk size) : Nat) : Int), modI mde 5, 0⟩ : E4)]))) hM215 con12 (⟨⟨_, rfl, _, rfl, (by refine own_rows (g := eRow) (w := 4) (el := 32) (b := b142) (n := (((0 + (mkL size ns 2).length) + [(⟨modI fro (((nMk size) : Nat) : Int), modI tto (((nMk size) : Nat) : Int), modI mde 5, 0⟩ : E4)].length))) (c := c143) (l := ((mkL size ns 2) ++ [(⟨modI fro (((nMk size) : Nat) : Int), modI tto (((nMk size) : Nat) : Int), modI mde 5, 0⟩ : E4)])) ?_ (by simp) (fun _ _ => rfl) (by have := (chkN_spec (mk_chk size ns 2)).2.2.1; simp only [List.length_singleton]; omega); rw [show ((((mkL size ns 2) ++ [(⟨modI fro (((nMk size) : Nat) : Int), modI tto (((nMk size) : Nat) : Int), modI mde 5, 0⟩ : E4)])).map eRow).flatten = ((([] : List Value) ++ ((mkL size ns 2).map eRow).flatten) ++ ([(⟨modI fro (((nMk size) : Nat) : Int), modI tto (((nMk size) : Nat) : Int), modI mde 5, 0⟩ : E4)].map eRow).flatten) from by simp]; exact g221)⟩, hckB⟩)
  have nx236 := E233.next
  have F237 := hx_ext (R := pEdges) F218 E233
  have F238 := hx_ext (R := (pAdj 48)) G207 E233
  have g239 := E233.old g219
  have g240 := E233.old g220
  have g241 := E233.old g221
  have g242 := E233.old g222
  have G226 : pAdj 48 (adjM (nMk size) ((mkL size ns 2) ++ [(⟨modI fro (((nMk size) : Nat) : Int), modI tto (((nMk size) : Nat) : Int), modI mde 5, 0⟩ : E4)])) w227 (hidx [(0, M210.next)] M229) := hx_of F235
  obtain ⟨ab225, _, _, _, _, ew227, _⟩ := id G226
  subst ew227
  have lg243 : M229.log = [] := by rw [← e232]; exact lg223
  have X244 := X224.trans E233
  have hl245 : M187.log = (M175.log ++ M37.log) := by rw [ef188]
  obtain ⟨M246, ef247⟩ : ∃ m : Mem, m = (Mem.mk M229.blks M229.next M229.hide (M229.log ++ (M175.log ++ M37.log))) := ⟨_, rfl⟩
  have X248 : Ext M M246 := by rw [ef247, ← hl245]; exact Ext.join (X189) (X244)
  have hM249 : MemOk M246 := by rw [ef247]; exact hM234
  have g250 : M246.get b27 = some ⟨[(i64 ((((nMk size) : Nat) : Int))), (.slice a12 (mkL size ns 2).length c13)], 26, 2, 0, true⟩ := by rw [ef247]; exact g239
  have g251 : M246.get b128 = some ⟨[(i64 (modI fro ((((nMk size) : Nat) : Int)))), (i64 (modI tto ((((nMk size) : Nat) : Int)))), (i64 (modI mde (5 : Int))), (i64 0)], 32, 4, 0, true⟩ := by rw [ef247]; exact g240
  have g252 : M246.get b142 = some ⟨((([] : List Value) ++ ((mkL size ns 2).map eRow).flatten) ++ ([(⟨modI fro (((nMk size) : Nat) : Int), modI tto (((nMk size) : Nat) : Int), modI mde 5, 0⟩ : E4)].map eRow).flatten), 32, 4, 0, true⟩ := by rw [ef247]; exact g241
  have g253 : M246.get b161 = some ⟨[(i64 ((((nMk size) : Nat) : Int))), (sli b142 0 (((0 + (mkL size ns 2).length) + [(⟨modI fro (((nMk size) : Nat) : Int), modI tto (((nMk size) : Nat) : Int), modI mde 5, 0⟩ : E4)].length)) c143)], 26, 2, 0, true⟩ := by rw [ef247]; exact g242
  have F254 := hx_still (R := pEdges) (M' := M246) F237 (fun id b h => by rw [ef247]; exact h)
  have F255 := hx_still (R := (pAdj 48)) (M' := M246) F238 (fun id b h => by rw [ef247]; exact h)
  have F256 := hx_still (R := (pAdj 48)) (M' := M246) G226 (fun id b h => by rw [ef247]; exact h)
  obtain ⟨M257, hL258, E259, hM260⟩ := loop9o hM249 g250 (am := some ⟨b142, 0, none⟩) (mc := c143) (by rw [(show ((mkL size ns 2) ++ [(⟨modI fro (((nMk size) : Nat) : Int), modI tto (((nMk size) : Nat) : Int), modI mde 5, 0⟩ : E4)]).length = (((0 + (mkL size ns 2).length) + [(⟨modI fro (((nMk size) : Nat) : Int), modI tto (((nMk size) : Nat) : Int), modI mde 5, 0⟩ : E4)].length)) from by simp)]; exact g253) (hx_out (R := pAdj 48) F255) (hx_out (R := pAdj 48) F256) (by rw [(show ((mkL size ns 2) ++ [(⟨modI fro (((nMk size) : Nat) : Int), modI tto (((nMk size) : Nat) : Int), modI mde 5, 0⟩ : E4)]).length = (((0 + (mkL size ns 2).length) + [(⟨modI fro (((nMk size) : Nat) : Int), modI tto (((nMk size) : Nat) : Int), modI mde 5, 0⟩ : E4)].length)) from by simp)]; refine own_rows (g := eRow) (w := 4) (el := 32) (l := ((mkL size ns 2) ++ [(⟨modI fro (((nMk size) : Nat) : Int), modI tto (((nMk size) : Nat) : Int), modI mde 5, 0⟩ : E4)])) ?_ (by simp) (fun _ _ => rfl) (by have := (chkN_spec (mk_chk size ns 2)).2.2.1; simp only [List.length_singleton]; omega); rw [show ((((mkL size ns 2) ++ [(⟨modI fro (((nMk size) : Nat) : Int), modI tto (((nMk size) : Nat) : Int), modI mde 5, 0⟩ : E4)])).map eRow).flatten = ((([] : List Value) ++ ((mkL size ns 2).map eRow).flatten) ++ ([(⟨modI fro (((nMk size) : Nat) : Int), modI tto (((nMk size) : Nat) : Int), modI mde 5, 0⟩ : E4)].map eRow).flatten) from by simp]; exact g252) (mk_chk size ns 2) hckB db27b161
  have nx261 := E259.next
  have F262 := hx_ext (R := pEdges) F254 E259
  have F263 := hx_ext (R := (pAdj 48)) F255 E259
  have F264 := hx_ext (R := (pAdj 48)) F256 E259
  have g265 := E259.old g250
  have g266 := E259.old g251
  have g267 := E259.old g252
  have g268 := E259.old g253
  have X269 := X248.trans E259
  have hraw := w9z_raw size ans cns ns fro tto mde M  M3 a12 c13 M18 b27 M28 M37 b52 M53 b65 c66 M67 M85 M100 M115 b128 M129 b142 c143 M144 b161 (Mem.mk M162.blks M162.next (hides 0 [⟨18, 1, M129.next, M144.next⟩, ⟨17, 1, M115.next, M129.next⟩, ⟨15, 1, M100.next, M115.next⟩, ⟨13, 1, M85.next, M100.next⟩, ⟨9, 1, M67.next, M85.next⟩, ⟨5, 1, M53.next, M67.next⟩, ⟨4, 1, M53.next, M53.next⟩, ⟨2, 1, M37.next, M53.next⟩] ++ M37.hide) M162.log) M175 ab206 M210 ab225 M229 M257
  dsimp only at hraw
  have rw0 : Mem.mk M37.blks M37.next M37.hide [] = R45 := eR46.symm
  have rw1 : Mem.mk M53.blks M53.next M37.hide M53.log = M53 := by rw [(show M37.hide = M53.hide from ((X41).hide.trans (X63).hide.symm))]
  have rw2 : Mem.mk M53.blks M53.next (hides 8 [⟨2, 1, M37.next, M53.next⟩] ++ M37.hide) M53.log = hidx (hides 8 [⟨2, 1, M37.next, M53.next⟩]) M53 := by rw [(show M37.hide = M53.hide from ((X41).hide.trans (X63).hide.symm))]; rfl
  have rw3 : Mem.mk M67.blks M67.next M37.hide M67.log = M67 := by rw [(show M37.hide = M67.hide from ((X41).hide.trans (X69).hide.symm))]
  have rw4 : Mem.mk M67.blks M67.next (hides 128 [⟨5, 1, M53.next, M67.next⟩, ⟨4, 1, M53.next, M53.next⟩, ⟨2, 1, M37.next, M53.next⟩] ++ M37.hide) M67.log = hidx (hides 128 [⟨5, 1, M53.next, M67.next⟩, ⟨4, 1, M53.next, M53.next⟩, ⟨2, 1, M37.next, M53.next⟩]) M67 := by rw [(show M37.hide = M67.hide from ((X41).hide.trans (X69).hide.symm))]; rfl
  have rw5 : Mem.mk M85.blks M85.next M37.hide M85.log = M85 := by rw [(show M37.hide = M85.hide from ((X41).hide.trans (X97).hide.symm))]
  have rw6 : Mem.mk M85.blks M85.next (hides 2048 [⟨9, 1, M67.next, M85.next⟩, ⟨5, 1, M53.next, M67.next⟩, ⟨4, 1, M53.next, M53.next⟩, ⟨2, 1, M37.next, M53.next⟩] ++ M37.hide) M85.log = hidx (hides 2048 [⟨9, 1, M67.next, M85.next⟩, ⟨5, 1, M53.next, M67.next⟩, ⟨4, 1, M53.next, M53.next⟩, ⟨2, 1, M37.next, M53.next⟩]) M85 := by rw [(show M37.hide = M85.hide from ((X41).hide.trans (X97).hide.symm))]; rfl
  have rw7 : Mem.mk M100.blks M100.next M37.hide M100.log = M100 := by rw [(show M37.hide = M100.hide from ((X41).hide.trans (X112).hide.symm))]
  have rw8 : Mem.mk M115.blks M115.next M37.hide M115.log = M115 := by rw [(show M37.hide = M115.hide from ((X41).hide.trans (X127).hide.symm))]
  have rw9 : Mem.mk M129.blks M129.next M37.hide M129.log = M129 := by rw [(show M37.hide = M129.hide from ((X41).hide.trans (X140).hide.symm))]
  have rw10 : Mem.mk M144.blks M144.next M37.hide M144.log = M144 := by rw [(show M37.hide = M144.hide from ((X41).hide.trans (X146).hide.symm))]
  have rw11 : Mem.mk M162.blks M162.next M37.hide M162.log = M162 := by rw [(show M37.hide = M162.hide from ((X41).hide.trans (X174).hide.symm))]
  have rw12 : Mem.mk M175.blks M175.next M37.hide M175.log = M175 := by rw [(show M37.hide = M175.hide from ((X41).hide.trans (X179).hide.symm))]
  have rw13 : (Mem.mk M175.blks M175.next M37.hide (M175.log ++ M37.log)) = (Mem.mk M175.blks M175.next M175.hide (M175.log ++ M37.log)) := by rw [(show M37.hide = M175.hide from ((X41).hide.trans (X179).hide.symm))]
  have rw14 : (Mem.mk M175.blks M175.next M175.hide (M175.log ++ M37.log)) = M187 := ef188.symm
  have rw15 : Mem.mk M175.blks M175.next M37.hide [] = R196 := by rw [eR197]; simp only [ef188, (show M37.hide = M175.hide from ((X41).hide.trans (X179).hide.symm))]
  have rw16 : Mem.mk M210.blks M210.next M37.hide M210.log = M210 := by rw [(show M37.hide = M210.hide from ((X41).hide.trans (X224).hide.symm))]
  have rw17 : Mem.mk M210.blks M210.next (hides 0 [⟨1, 1, M175.next, M210.next⟩, ⟨0, 1, M175.next, M175.next⟩] ++ M37.hide) M210.log = hidx (hides 0 [⟨1, 1, M175.next, M210.next⟩, ⟨0, 1, M175.next, M175.next⟩]) M210 := by rw [(show M37.hide = M210.hide from ((X41).hide.trans (X224).hide.symm))]; rfl
  have rw18 : Mem.mk M229.blks M229.next M37.hide M229.log = M229 := by rw [(show M37.hide = M229.hide from ((X41).hide.trans (X244).hide.symm))]
  have rw19 : (Mem.mk M229.blks M229.next M37.hide (M229.log ++ (M175.log ++ M37.log))) = (Mem.mk M229.blks M229.next M229.hide (M229.log ++ (M175.log ++ M37.log))) := by rw [(show M37.hide = M229.hide from ((X41).hide.trans (X244).hide.symm))]
  have rw20 : (Mem.mk M229.blks M229.next M229.hide (M229.log ++ (M175.log ++ M37.log))) = M246 := ef247.symm
  try rw [rw0] at hraw
  try rw [rw1] at hraw
  try rw [rw2] at hraw
  try rw [rw3] at hraw
  try rw [rw4] at hraw
  try rw [rw5] at hraw
  try rw [rw6] at hraw
  try rw [rw7] at hraw
  try rw [rw8] at hraw
  try rw [rw9] at hraw
  try rw [rw10] at hraw
  try rw [rw11] at hraw
  try rw [rw12] at hraw
  try rw [rw13] at hraw
  try rw [rw14] at hraw
  try rw [rw15] at hraw
  try rw [rw16] at hraw
  try rw [rw17] at hraw
  try rw [rw18] at hraw
  try rw [rw19] at hraw
  try rw [rw20] at hraw
  exact ⟨(.bool true), M257, Ev.told_tmp noNumP mixedP Try.func9 q9_ok (by kernel_rfl) rK9 (fun B => specsB_ok (hS9_10_11_12_15 B) (k := [(0, bone (.loop (q9.loopAt 0)) Try.f9.ntmps [11, 12, 13, 14, 15, 16] [some (pt b27 0), some (pt b161 0), some (pt ab206 0), some (pt ab225 0), some (i64 ((((mkL size ns 2).length : Nat) : Int))), some (i64 0)] M246 .normal (fr []) M257)]) (fun p hp => by simp only [List.mem_cons, List.not_mem_nil, or_false] at hp; rcases hp with rfl <;> first | exact BlkOk.loop noNumP mixedP hL258)) (fun _ h => blksF_one h) hraw (hk (q_call rfl p4 l5 e6) (hk (q_call rfl p19 l20 e21) (hk (q_eq (by rw [← eb29, ← em30]; kernel_rfl) Nat.one_ne_zero) (hk (q_st q38) (hk (lC dC3 g50 rfl) (hk (q_lt ltb27M37) (hk (q_eq (by rw [← eb54, ← em55]; kernel_rfl) Nat.one_ne_zero) (hk (lC dC24 (hidx_get.2 ⟨hides_low (by simp; omega), g60⟩) rfl) (hk (q_app (show _ = some (1, _, _) from q68) Nat.one_ne_zero) (hk (lC dC3 (hidx_get.2 ⟨hides_low (by simp; omega), g81⟩) rfl) (hk (q_lt ltb27M37) (hk (q_call rfl p86 l87 e88) (hk (lC dC3 (hidx_get.2 ⟨hides_low (by simp; omega), g94⟩) rfl) (hk (q_lt ltb27M37) (hk (q_call rfl p101 l102 e103) (hk (q_call rfl p116 l117 e118) (hk (q_eq (by rw [← eb130, ← em131]; kernel_rfl) Nat.one_ne_zero) (hk (q_app (show _ = some (1, _, _) from q145) Nat.one_ne_zero) (hk (q_eq (by rw [← eb163, ← em164]; kernel_rfl) Nat.one_ne_zero) (hk (q_st q176) (hk (q_apart (by rw [lg186]; simp <;> omega)) (hk (lA ⟨dA26, dS26⟩ g201 rfl) (hk (q_call rfl p211 l212 e213) (hk (lA ⟨dA26, dS26⟩ (hidx_get.2 ⟨hides_low (by simp; omega), g222⟩) rfl) (hk (q_lt ltb161M187) (hk (q_call rfl p230 l231 e232) (hk (q_apart (by rw [lg243]; simp <;> omega)) (hk (lC dC24 g250 rfl) (hk (lN (hx_out (R := pEdges) F254).ln) (hk (q_blk rfl) hn)))))))))))))))))))))))))))))), X269, hM260, rfl⟩
theorem w9y_raw (size : Int) (ans : Option Addr) (cns : Nat) (ns : List Int) (fro tto mde : Int) (M : Mem) (M3 : Mem) (a12 : Option Addr) (c13 : Nat) (M18 : Mem) (b27 : Nat) (M28 : Mem) (M37 : Mem) (b52 : Nat) (M53 : Mem) (b65 : Nat) (c66 : Nat) (M67 : Mem) (M85 : Mem) (M100 : Mem) (M115 : Mem) (b128 : Nat) (M129 : Mem) (b142 : Nat) (c143 : Nat) (M144 : Mem) (b161 : Nat) (M162 : Mem) (M175 : Mem) (ab206 : Nat) (M210 : Mem) (ab225 : Nat) (M229 : Mem) (M257 : Mem) : oT Try.prog [0] 140 Try.f9 q9 [(i64 size), (.slice ans ns.length cns), (i64 fro), (i64 tto), (i64 mde)] M [ttV 3 (.bool true) M3, ttV 12 (.agg ⟨[(i64 ((((nMk size) : Nat) : Int))), (.slice a12 (mkL size ns 2).length c13)]⟩) M18, ttV 14 (pt b27 0) M28, ttS 16 M37, ttL 20 (i64 ((((nMk size) : Nat) : Int))), ttV 22 (sli b52 0 0 1) M53, ttL 26 (.slice a12 (mkL size ns 2).length c13), .at 28 (1, .val (sli b65 0 ((0 + (mkL size ns 2).length)) c66), M67), ttL 34 (i64 ((((nMk size) : Nat) : Int))), ttV 36 (i64 (modI fro ((((nMk size) : Nat) : Int)))) M85, ttL 42 (i64 ((((nMk size) : Nat) : Int))), ttV 44 (i64 (modI tto ((((nMk size) : Nat) : Int)))) M100, ttV 48 (i64 (modI mde (5 : Int))) M115, ttV 52 (sli b128 0 1 2) M129, .at 54 (2, .val (sli b142 0 (((0 + (mkL size ns 2).length) + [(⟨modI fro (((nMk size) : Nat) : Int), modI tto (((nMk size) : Nat) : Int), modI mde 5, 0⟩ : E4)].length)) c143), M144), ttV 58 (pt b161 0) M162, ttS 60 M175, ttL 62 (.agg ⟨[(i64 ((((nMk size) : Nat) : Int))), (.slice a12 (mkL size ns 2).length c13)]⟩), ttV 64 (pt ab206 0) M210, ttL 66 (.agg ⟨[(i64 ((((nMk size) : Nat) : Int))), (sli b142 0 (((0 + (mkL size ns 2).length) + [(⟨modI fro (((nMk size) : Nat) : Int), modI tto (((nMk size) : Nat) : Int), modI mde 5, 0⟩ : E4)].length)) c143)]⟩), ttV 68 (pt ab225 0) M229, ttL 89 (.slice a12 (mkL size ns 2).length c13), ttT 91, .blk 96 [11, 12, 13, 14, 15, 16] .normal (fr []) M257] 10 = some (.ret, some (.bool true), M257, [qC 10 [] M (.bool true) M3, qC 11 [(i64 size), (.slice ans ns.length cns), (i64 2)] M3 (.agg ⟨[(i64 ((((nMk size) : Nat) : Int))), (.slice a12 (mkL size ns 2).length c13)]⟩) M18, .eq (aalloc Try.prog 26 M18) (1, .val (pt b27 0), M28), qS 26 b27 0 (.agg ⟨[(i64 ((((nMk size) : Nat) : Int))), (.slice a12 (mkL size ns 2).length c13)]⟩) M28 M37, qL 3 b27 0 (Mem.mk M37.blks M37.next M37.hide []) (i64 ((((nMk size) : Nat) : Int))), qT (Nat.blt b27 M37.next), .eq (abuildSlice Try.prog 24 0 [] (Mem.mk M37.blks M37.next M37.hide [])) (1, .val (sli b52 0 0 1), M53), qL 24 b27 1 (Mem.mk M53.blks M53.next (hides 8 [⟨2, 1, M37.next, M53.next⟩] ++ M37.hide) M53.log) (.slice a12 (mkL size ns 2).length c13), .q (.append [24, 24] (sli b52 0 0 1) (.slice a12 (mkL size ns 2).length c13) (Mem.mk M53.blks M53.next M37.hide M53.log)) (1, .val (sli b65 0 ((0 + (mkL size ns 2).length)) c66), M67), qL 3 b27 0 (Mem.mk M67.blks M67.next (hides 128 [⟨5, 1, M53.next, M67.next⟩, ⟨4, 1, M53.next, M53.next⟩, ⟨2, 1, M37.next, M53.next⟩] ++ M37.hide) M67.log) (i64 ((((nMk size) : Nat) : Int))), qT (Nat.blt b27 M37.next), qC 15 [(i64 fro), (i64 ((((nMk size) : Nat) : Int)))] (Mem.mk M67.blks M67.next M37.hide M67.log) (i64 (modI fro ((((nMk size) : Nat) : Int)))) M85, qL 3 b27 0 (Mem.mk M85.blks M85.next (hides 2048 [⟨9, 1, M67.next, M85.next⟩, ⟨5, 1, M53.next, M67.next⟩, ⟨4, 1, M53.next, M53.next⟩, ⟨2, 1, M37.next, M53.next⟩] ++ M37.hide) M85.log) (i64 ((((nMk size) : Nat) : Int))), qT (Nat.blt b27 M37.next), qC 15 [(i64 tto), (i64 ((((nMk size) : Nat) : Int)))] (Mem.mk M85.blks M85.next M37.hide M85.log) (i64 (modI tto ((((nMk size) : Nat) : Int)))) M100, qC 15 [(i64 mde), (i64 5)] (Mem.mk M100.blks M100.next M37.hide M100.log) (i64 (modI mde (5 : Int))) M115, .eq (abuildSlice Try.prog 24 1 [(0, (.agg ⟨[(i64 (modI fro ((((nMk size) : Nat) : Int)))), (i64 (modI tto ((((nMk size) : Nat) : Int)))), (i64 (modI mde (5 : Int))), (i64 0)]⟩))] (Mem.mk M115.blks M115.next M37.hide M115.log)) (1, .val (sli b128 0 1 2), M129), .q (.append [24, 24] (sli b65 0 ((0 + (mkL size ns 2).length)) c66) (sli b128 0 1 2) (Mem.mk M129.blks M129.next M37.hide M129.log)) (2, .val (sli b142 0 (((0 + (mkL size ns 2).length) + [(⟨modI fro (((nMk size) : Nat) : Int), modI tto (((nMk size) : Nat) : Int), modI mde 5, 0⟩ : E4)].length)) c143), M144), .eq (aalloc Try.prog 26 (Mem.mk M144.blks M144.next (hides 0 [⟨18, 2, M129.next, M144.next⟩, ⟨17, 1, M115.next, M129.next⟩, ⟨15, 1, M100.next, M115.next⟩, ⟨13, 1, M85.next, M100.next⟩, ⟨9, 1, M67.next, M85.next⟩, ⟨5, 1, M53.next, M67.next⟩, ⟨4, 1, M53.next, M53.next⟩, ⟨2, 1, M37.next, M53.next⟩] ++ M37.hide) M144.log)) (1, .val (pt b161 0), M162), qS 26 b161 0 (.agg ⟨[(i64 ((((nMk size) : Nat) : Int))), (sli b142 0 (((0 + (mkL size ns 2).length) + [(⟨modI fro (((nMk size) : Nat) : Int), modI tto (((nMk size) : Nat) : Int), modI mde 5, 0⟩ : E4)].length)) c143)]⟩) (Mem.mk M162.blks M162.next M37.hide M162.log) M175, qT (apartN [b27, b27, b27] M175.log), qL 26 b27 0 (Mem.mk M175.blks M175.next M37.hide []) (.agg ⟨[(i64 ((((nMk size) : Nat) : Int))), (.slice a12 (mkL size ns 2).length c13)]⟩), qC 12 [(.agg ⟨[(i64 ((((nMk size) : Nat) : Int))), (.slice a12 (mkL size ns 2).length c13)]⟩)] (Mem.mk M175.blks M175.next M37.hide []) (pt ab206 0) M210, qL 26 b161 0 (Mem.mk M210.blks M210.next (hides 0 [⟨1, 1, M175.next, M210.next⟩, ⟨0, 1, M175.next, M175.next⟩] ++ M37.hide) M210.log) (.agg ⟨[(i64 ((((nMk size) : Nat) : Int))), (sli b142 0 (((0 + (mkL size ns 2).length) + [(⟨modI fro (((nMk size) : Nat) : Int), modI tto (((nMk size) : Nat) : Int), modI mde 5, 0⟩ : E4)].length)) c143)]⟩), qT (Nat.blt b161 M175.next), qC 12 [(.agg ⟨[(i64 ((((nMk size) : Nat) : Int))), (sli b142 0 (((0 + (mkL size ns 2).length) + [(⟨modI fro (((nMk size) : Nat) : Int), modI tto (((nMk size) : Nat) : Int), modI mde 5, 0⟩ : E4)].length)) c143)]⟩)] (Mem.mk M210.blks M210.next M37.hide M210.log) (pt ab225 0) M229, qT (apartN [b161] M229.log), qL 24 b27 1 (Mem.mk M229.blks M229.next M37.hide (M229.log ++ (M175.log ++ M37.log))) (.slice a12 (mkL size ns 2).length c13), .ln a12 (mkL size ns 2).length c13, .blk 0 (.loop (q9.loopAt 0)) Try.f9.ntmps [11, 12, 13, 14, 15, 16] [some (pt b27 0), some (pt b161 0), some (pt ab206 0), some (pt ab225 0), some (i64 ((((mkL size ns 2).length : Nat) : Int))), some (i64 0)] (Mem.mk M229.blks M229.next M37.hide (M229.log ++ (M175.log ++ M37.log))) .normal (fr []) M257]) := by kernel_rfl
theorem w9y (size : Int) (ans : Option Addr) (cns : Nat) (ns : List Int) (fro tto mde : Int) {M : Mem} (hM : MemOk M) (hns : pInts ns (.slice ans ns.length cns) M) (hlm : 0 < (mkL size ns 2).length) (hckB : chkN (((nMk size) : Nat) : Int) ((mkL size ns 2) ++ [(⟨modI fro (((nMk size) : Nat) : Int), modI tto (((nMk size) : Nat) : Int), modI mde 5, 0⟩ : E4)]) = true) : ∃ v_ M', Ev Try.prog [] 9 [(i64 size), (.slice ans ns.length cns), (i64 fro), (i64 tto), (i64 mde)] M v_ M' ∧ Ext M M' ∧ MemOk M' ∧ v_ = .bool true := by
  obtain ⟨w1, N2, M3, p4, l5, e6, E7, hM8, F9⟩ := call_fc (x := ()) hM con10 (rfl)
  have nx10 := E7.next
  have ew1 : w1 = (.bool true) := F9
  subst ew1
  have X11 := (Ext.refl M).trans E7
  obtain ⟨w16, N17, M18, p19, l20, e21, E22, hM23, F24⟩ := call_fc (x := (size, ns, 2)) hM8 con11 (⟨_, _, _, rfl, rfl, AP.Ext (R := pInts) hns X11, rfl⟩)
  have nx25 := E22.next
  obtain ⟨L15, ew16, G14⟩ : pNetN ((nMk size), (mkL size ns 2)) w16 (hidx [(0, M3.next)] M18) := hx_of F24
  simp only at ew16 G14
  obtain ⟨a12, c13, eL15⟩ := GRowsAt.form G14
  subst eL15
  subst ew16
  have X26 := X11.trans E22
  obtain ⟨b27, M28, eb29, em30, g31, E32, hM33⟩ := new_t hM23 ⟨[(i64 0), sln], 26, 2, 0, true⟩
  have nb27 : M.next ≤ b27 := by rw [← eb29]; exact X26.next
  have F34 := hx_new (R := pEdges) G14 eb29 E32
  have nx35 := E32.next
  have X36 := X26.trans E32
  obtain ⟨M37, q38, g39, kp40, X41, hM42, nx43⟩ := store_t (o := 0) (v := (.agg ⟨[(i64 ((((nMk size) : Nat) : Int))), (.slice a12 (mkL size ns 2).length c13)]⟩)) (new := [(i64 ((((nMk size) : Nat) : Int))), (.slice a12 (mkL size ns 2).length c13)]) X36 nb27 hM33 dS26 g31 rfl rfl (Nat.zero_le _) (Nat.le_of_ble_eq_true rfl) rfl
  replace g39 : M37.get b27 = some ⟨[(i64 ((((nMk size) : Nat) : Int))), (.slice a12 (mkL size ns 2).length c13)], 26, 2, 0, true⟩ := g39
  have F44 := hx_keep (R := pEdges) F34 (fun id h _ => kp40 id h) (by intro id hh; simp only [hidden_con] at hh; omega)
  obtain ⟨R45, eR46⟩ : ∃ m : Mem, m = Mem.mk M37.blks M37.next M37.hide [] := ⟨_, rfl⟩
  have X47 : Ext (Mem.mk M.blks M.next M.hide []) R45 := by rw [eR46]; exact Ext.aside (X41)
  have lg48 : R45.log = [] := by rw [eR46]
  have nxR45 : R45.next = M37.next := by rw [eR46]
  have hM49 : MemOk R45 := by rw [eR46]; exact MemOk.log hM42
  have ltb27M37 : b27 < M37.next := by have h := Mem.lt_of_get g39; exact h
  have g50 : R45.get b27 = some ⟨[(i64 ((((nMk size) : Nat) : Int))), (.slice a12 (mkL size ns 2).length c13)], 26, 2, 0, true⟩ := by rw [eR46]; exact g39
  have F51 := hx_still (R := pEdges) (M' := R45) F44 (fun id b h => by rw [eR46]; exact h)
  obtain ⟨b52, M53, eb54, em55, g56, E57, hM58⟩ := new_t hM49 ⟨[], 32, 4, 0, true⟩
  have nb52 : M.next ≤ b52 := by rw [← eb54]; exact X47.next
  have db27b52 : b27 ≠ b52 := by have := Mem.lt_of_get g50; omega
  have F59 := hx_new (R := pEdges) F51 eb54 E57
  have g60 := E57.old g50
  have lg61 : M53.log = [] := by rw [← em55]; exact lg48
  have nx62 := E57.next
  have X63 := X47.trans E57
  obtain ⟨t64, b65, c66, M67, q68, X69, hM70, nb65, g71, hs72, hl73, kp74, fr75, t76, t77, nx78, lg79⟩ := own_app (P := Try.prog) (sT := 24) (xT := 24) (y := 32) (w := 4) (n := 0) (c := 1) (cs := ([] : List Value)) X63 (.inl ⟨rfl, rfl, rfl⟩) rfl nb52 g56 hM58 (by kernel_rfl) (by kernel_rfl) (by kernel_rfl) (by kernel_rfl) (by decide) (by decide) rfl (hx_out (R := pEdges) F59) (by have := (chkN_spec (mk_chk size ns 2)).2.2.1; omega) (fun _ _ => rfl)
  obtain rfl : t64 = true := t76 (by omega)
  have lg80 : M67.log = [] := by rw [lg79, lg61]; rfl
  have ltownb65 : b65 < M67.next := Mem.lt_of_get g71
  have g81 := kp74 _ _ g60 db27b52
  have db27b65 : b27 ≠ b65 := (fr75).elim (fun hh => by rw [hh]; exact db27b52) (fun hh => by have := Mem.lt_of_get g60; omega)
  have F82 := hx_own (R := pEdges) (n' := M67.next) F59 (fun id b hh h => kp74 id b h (by simp only [hidden_con] at hh; omega))
  obtain ⟨w83, N84, M85, p86, l87, e88, E89, hM90, F91⟩ := call_fc (x := (fro, (((nMk size) : Nat) : Int))) hM70 con15 (⟨⟨_, _, rfl, rfl, rfl⟩, (by have := nMk_range size; simp; omega)⟩)
  have nx92 := E89.next
  have F93 := hx_ext (R := pEdges) F82 E89
  have g94 := E89.old g81
  have g95 := E89.old g71
  have ew83 : w83 = (i64 (modI fro ((((nMk size) : Nat) : Int)))) := F91
  subst ew83
  have lg96 : M85.log = [] := by rw [← e88]; exact lg80
  have X97 := X69.trans E89
  obtain ⟨w98, N99, M100, p101, l102, e103, E104, hM105, F106⟩ := call_fc (x := (tto, (((nMk size) : Nat) : Int))) hM90 con15 (⟨⟨_, _, rfl, rfl, rfl⟩, (by have := nMk_range size; simp; omega)⟩)
  have nx107 := E104.next
  have F108 := hx_ext (R := pEdges) F93 E104
  have g109 := E104.old g94
  have g110 := E104.old g95
  have ew98 : w98 = (i64 (modI tto ((((nMk size) : Nat) : Int)))) := F106
  subst ew98
  have lg111 : M100.log = [] := by rw [← e103]; exact lg96
  have X112 := X97.trans E104
  obtain ⟨w113, N114, M115, p116, l117, e118, E119, hM120, F121⟩ := call_fc (x := (mde, (5 : Int))) hM105 con15 (⟨⟨_, _, rfl, rfl, rfl⟩, rfl⟩)
  have nx122 := E119.next
  have F123 := hx_ext (R := pEdges) F108 E119
  have g124 := E119.old g109
  have g125 := E119.old g110
  have ew113 : w113 = (i64 (modI mde (5 : Int))) := F121
  subst ew113
  have lg126 : M115.log = [] := by rw [← e118]; exact lg111
  have X127 := X112.trans E119
  obtain ⟨b128, M129, eb130, em131, g132, E133, hM134⟩ := new_t hM120 ⟨[(i64 (modI fro ((((nMk size) : Nat) : Int)))), (i64 (modI tto ((((nMk size) : Nat) : Int)))), (i64 (modI mde (5 : Int))), (i64 0)], 32, 4, 0, true⟩
  have nb128 : M.next ≤ b128 := by rw [← eb130]; exact X127.next
  have db27b128 : b27 ≠ b128 := by have := Mem.lt_of_get g124; omega
  have db65b128 : b65 ≠ b128 := by have := Mem.lt_of_get g125; omega
  have F135 := hx_new (R := pEdges) F123 eb130 E133
  have g136 := E133.old g124
  have g137 := E133.old g125
  have lg138 : M129.log = [] := by rw [← em131]; exact lg126
  have nx139 := E133.next
  have X140 := X127.trans E133
  obtain ⟨t141, b142, c143, M144, q145, X146, hM147, nb142, g148, hs149, hl150, kp151, fr152, t153, t154, nx155, lg156⟩ := own_app (P := Try.prog) (sT := 24) (xT := 24) (y := 32) (w := 4) (n := (0 + (mkL size ns 2).length)) (c := c66) (cs := (([] : List Value) ++ ((mkL size ns 2).map eRow).flatten)) X140 hs72 hl73 nb65 g137 hM134 (by kernel_rfl) (by kernel_rfl) (by kernel_rfl) (by kernel_rfl) (by decide) (by decide) rfl (own_rows (g := eRow) (c := 2) (l := [(⟨modI fro (((nMk size) : Nat) : Int), modI tto (((nMk size) : Nat) : Int), modI mde 5, 0⟩ : E4)]) g132 rfl (fun _ _ => rfl) (by simp)) (by have := (chkN_spec (mk_chk size ns 2)).2.2.1; simp only [List.length_singleton]; omega) (fun _ _ => rfl)
  obtain rfl : t141 = false := t154 (by omega) (by simp)
  have lg157 : M144.log = [b65] := by rw [lg156, lg138]; rfl
  have ltownb142 : b142 < M144.next := Mem.lt_of_get g148
  have g158 := kp151 _ _ g136 db27b65
  have db27b142 : b27 ≠ b142 := (fr152).elim (fun hh => by rw [hh]; exact db27b65) (fun hh => by have := Mem.lt_of_get g136; omega)
  have g159 := kp151 _ _ g132 (Ne.symm db65b128)
  have db128b142 : b128 ≠ b142 := (fr152).elim (fun hh => by rw [hh]; exact (Ne.symm db65b128)) (fun hh => by have := Mem.lt_of_get g132; omega)
  have F160 := hx_own (R := pEdges) (n' := M144.next) F135 (fun id b hh h => kp151 id b h (by simp only [hidden_con] at hh; omega))
  obtain ⟨b161, M162, eb163, em164, g165, E166, hM167⟩ := new_t hM147 ⟨[(i64 0), sln], 26, 2, 0, true⟩
  have nb161 : M.next ≤ b161 := by rw [← eb163]; exact X146.next
  have db27b161 : b27 ≠ b161 := by have := Mem.lt_of_get g158; omega
  have db128b161 : b128 ≠ b161 := by have := Mem.lt_of_get g159; omega
  have db142b161 : b142 ≠ b161 := by have := Mem.lt_of_get g148; omega
  have F168 := hx_new (R := pEdges) F160 eb163 E166
  have g169 := E166.old g158
  have g170 := E166.old g159
  have g171 := E166.old g148
  have lg172 : M162.log = [b65] := by rw [← em164]; exact lg157
  have nx173 := E166.next
  have X174 := X146.trans E166
  obtain ⟨M175, q176, g177, kp178, X179, hM180, nx181⟩ := store_t (o := 0) (v := (.agg ⟨[(i64 ((((nMk size) : Nat) : Int))), (sli b142 0 (((0 + (mkL size ns 2).length) + [(⟨modI fro (((nMk size) : Nat) : Int), modI tto (((nMk size) : Nat) : Int), modI mde 5, 0⟩ : E4)].length)) c143)]⟩)) (new := [(i64 ((((nMk size) : Nat) : Int))), (sli b142 0 (((0 + (mkL size ns 2).length) + [(⟨modI fro (((nMk size) : Nat) : Int), modI tto (((nMk size) : Nat) : Int), modI mde 5, 0⟩ : E4)].length)) c143)]) X174 nb161 hM167 dS26 g165 rfl rfl (Nat.zero_le _) (Nat.le_of_ble_eq_true rfl) rfl
  replace g177 : M175.get b161 = some ⟨[(i64 ((((nMk size) : Nat) : Int))), (sli b142 0 (((0 + (mkL size ns 2).length) + [(⟨modI fro (((nMk size) : Nat) : Int), modI tto (((nMk size) : Nat) : Int), modI mde 5, 0⟩ : E4)].length)) c143)], 26, 2, 0, true⟩ := g177
  have F182 := hx_keep (R := pEdges) F168 (fun id h _ => kp178 id h) (by intro id hh; simp only [hidden_con] at hh; omega)
  have g183 := (kp178 _ db27b161).trans g169
  have g184 := (kp178 _ db128b161).trans g170
  have g185 := (kp178 _ db142b161).trans g171
  have lg186 : M175.log = [b161, b65] := by rw [nx181, lg172]
  obtain ⟨M187, ef188⟩ : ∃ m : Mem, m = (Mem.mk M175.blks M175.next M175.hide (M175.log ++ M37.log)) := ⟨_, rfl⟩
  have X189 : Ext M M187 := by rw [ef188]; exact Ext.join (X41) (X179)
  have hM190 : MemOk M187 := by rw [ef188]; exact hM180
  have g191 : M187.get b27 = some ⟨[(i64 ((((nMk size) : Nat) : Int))), (.slice a12 (mkL size ns 2).length c13)], 26, 2, 0, true⟩ := by rw [ef188]; exact g183
  have g192 : M187.get b128 = some ⟨[(i64 (modI fro ((((nMk size) : Nat) : Int)))), (i64 (modI tto ((((nMk size) : Nat) : Int)))), (i64 (modI mde (5 : Int))), (i64 0)], 32, 4, 0, true⟩ := by rw [ef188]; exact g184
  have g193 : M187.get b142 = some ⟨((([] : List Value) ++ ((mkL size ns 2).map eRow).flatten) ++ ([(⟨modI fro (((nMk size) : Nat) : Int), modI tto (((nMk size) : Nat) : Int), modI mde 5, 0⟩ : E4)].map eRow).flatten), 32, 4, 0, true⟩ := by rw [ef188]; exact g185
  have g194 : M187.get b161 = some ⟨[(i64 ((((nMk size) : Nat) : Int))), (sli b142 0 (((0 + (mkL size ns 2).length) + [(⟨modI fro (((nMk size) : Nat) : Int), modI tto (((nMk size) : Nat) : Int), modI mde 5, 0⟩ : E4)].length)) c143)], 26, 2, 0, true⟩ := by rw [ef188]; exact g177
  have F195 := hx_still (R := pEdges) (M' := M187) F182 (fun id b h => by rw [ef188]; exact h)
  obtain ⟨R196, eR197⟩ : ∃ m : Mem, m = Mem.mk M187.blks M187.next M187.hide [] := ⟨_, rfl⟩
  have X198 : Ext (Mem.mk M.blks M.next M.hide []) R196 := by rw [eR197]; exact Ext.aside (X189)
  have lg199 : R196.log = [] := by rw [eR197]
  have nxR196 : R196.next = M187.next := by rw [eR197]
  have hM200 : MemOk R196 := by rw [eR197]; exact MemOk.log hM190
  have ltb27M187 : b27 < M175.next := by have h := Mem.lt_of_get g191; rw [ef188] at h; exact h
  have g201 : R196.get b27 = some ⟨[(i64 ((((nMk size) : Nat) : Int))), (.slice a12 (mkL size ns 2).length c13)], 26, 2, 0, true⟩ := by rw [eR197]; exact g191
  have ltb128M187 : b128 < M175.next := by have h := Mem.lt_of_get g192; rw [ef188] at h; exact h
  have g202 : R196.get b128 = some ⟨[(i64 (modI fro ((((nMk size) : Nat) : Int)))), (i64 (modI tto ((((nMk size) : Nat) : Int)))), (i64 (modI mde (5 : Int))), (i64 0)], 32, 4, 0, true⟩ := by rw [eR197]; exact g192
  have ltb142M187 : b142 < M175.next := by have h := Mem.lt_of_get g193; rw [ef188] at h; exact h
  have g203 : R196.get b142 = some ⟨((([] : List Value) ++ ((mkL size ns 2).map eRow).flatten) ++ ([(⟨modI fro (((nMk size) : Nat) : Int), modI tto (((nMk size) : Nat) : Int), modI mde 5, 0⟩ : E4)].map eRow).flatten), 32, 4, 0, true⟩ := by rw [eR197]; exact g193
  have ltb161M187 : b161 < M175.next := by have h := Mem.lt_of_get g194; rw [ef188] at h; exact h
  have g204 : R196.get b161 = some ⟨[(i64 ((((nMk size) : Nat) : Int))), (sli b142 0 (((0 + (mkL size ns 2).length) + [(⟨modI fro (((nMk size) : Nat) : Int), modI tto (((nMk size) : Nat) : Int), modI mde 5, 0⟩ : E4)].length)) c143)], 26, 2, 0, true⟩ := by rw [eR197]; exact g194
  have F205 := hx_still (R := pEdges) (M' := R196) F195 (fun id b h => by rw [eR197]; exact h)
  obtain ⟨w208, N209, M210, p211, l212, e213, E214, hM215, F216⟩ := call_fc (x := ((nMk size), (mkL size ns 2))) hM200 con12 (⟨⟨_, rfl, _, rfl, hx_out (R := pEdges) F205⟩, mk_chk size ns 2⟩)
  have nx217 := E214.next
  have F218 := hx_ext (R := pEdges) F205 E214
  have g219 := E214.old g201
  have g220 := E214.old g202
  have g221 := E214.old g203
  have g222 := E214.old g204
  have G207 : pAdj 48 (adjM (nMk size) (mkL size ns 2)) w208 (hidx [(0, R196.next)] M210) := hx_of F216
  obtain ⟨ab206, _, _, _, _, ew208, _⟩ := id G207
  subst ew208
  have lg223 : M210.log = [] := by rw [← e213]; exact lg199
  have X224 := X198.trans E214
  obtain ⟨w227, N228, M229, p230, l231, e232, E233, hM234, F235⟩ := call_fc (x := ((nMk size), ((mkL size ns 2) ++ [(⟨modI fro (((nMk size) : Nat) : Int), modI tto (((nMk size) : Nat) : Int), modI mde 5, 0⟩ : E4)]))) hM215 con12 (⟨⟨_, rfl, _, rfl, (by refine own_rows (g := eRow) (w := 4) (el := 32) (b := b142) (n := (((0 + (mkL size ns 2).length) + [(⟨modI fro (((nMk size) : Nat) : Int), modI tto (((nMk size) : Nat) : Int), modI mde 5, 0⟩ : E4)].length))) (c := c143) (l := ((mkL size ns 2) ++ [(⟨modI fro (((nMk size) : Nat) : Int), modI tto (((nMk size) : Nat) : Int), modI mde 5, 0⟩ : E4)])) ?_ (by simp) (fun _ _ => rfl) (by have := (chkN_spec (mk_chk size ns 2)).2.2.1; simp only [List.length_singleton]; omega); rw [show ((((mkL size ns 2) ++ [(⟨modI fro (((nMk size) : Nat) : Int), modI tto (((nMk size) : Nat) : Int), modI mde 5, 0⟩ : E4)])).map eRow).flatten = ((([] : List Value) ++ ((mkL size ns 2).map eRow).flatten) ++ ([(⟨modI fro (((nMk size) : Nat) : Int), modI tto (((nMk size) : Nat) : Int), modI mde 5, 0⟩ : E4)].map eRow).flatten) from by simp]; exact g221)⟩, hckB⟩)
  have nx236 := E233.next
  have F237 := hx_ext (R := pEdges) F218 E233
  have F238 := hx_ext (R := (pAdj 48)) G207 E233
  have g239 := E233.old g219
  have g240 := E233.old g220
  have g241 := E233.old g221
  have g242 := E233.old g222
  have G226 : pAdj 48 (adjM (nMk size) ((mkL size ns 2) ++ [(⟨modI fro (((nMk size) : Nat) : Int), modI tto (((nMk size) : Nat) : Int), modI mde 5, 0⟩ : E4)])) w227 (hidx [(0, M210.next)] M229) := hx_of F235
  obtain ⟨ab225, _, _, _, _, ew227, _⟩ := id G226
  subst ew227
  have lg243 : M229.log = [] := by rw [← e232]; exact lg223
  have X244 := X224.trans E233
  have hl245 : M187.log = (M175.log ++ M37.log) := by rw [ef188]
  obtain ⟨M246, ef247⟩ : ∃ m : Mem, m = (Mem.mk M229.blks M229.next M229.hide (M229.log ++ (M175.log ++ M37.log))) := ⟨_, rfl⟩
  have X248 : Ext M M246 := by rw [ef247, ← hl245]; exact Ext.join (X189) (X244)
  have hM249 : MemOk M246 := by rw [ef247]; exact hM234
  have g250 : M246.get b27 = some ⟨[(i64 ((((nMk size) : Nat) : Int))), (.slice a12 (mkL size ns 2).length c13)], 26, 2, 0, true⟩ := by rw [ef247]; exact g239
  have g251 : M246.get b128 = some ⟨[(i64 (modI fro ((((nMk size) : Nat) : Int)))), (i64 (modI tto ((((nMk size) : Nat) : Int)))), (i64 (modI mde (5 : Int))), (i64 0)], 32, 4, 0, true⟩ := by rw [ef247]; exact g240
  have g252 : M246.get b142 = some ⟨((([] : List Value) ++ ((mkL size ns 2).map eRow).flatten) ++ ([(⟨modI fro (((nMk size) : Nat) : Int), modI tto (((nMk size) : Nat) : Int), modI mde 5, 0⟩ : E4)].map eRow).flatten), 32, 4, 0, true⟩ := by rw [ef247]; exact g241
  have g253 : M246.get b161 = some ⟨[(i64 ((((nMk size) : Nat) : Int))), (sli b142 0 (((0 + (mkL size ns 2).length) + [(⟨modI fro (((nMk size) : Nat) : Int), modI tto (((nMk size) : Nat) : Int), modI mde 5, 0⟩ : E4)].length)) c143)], 26, 2, 0, true⟩ := by rw [ef247]; exact g242
  have F254 := hx_still (R := pEdges) (M' := M246) F237 (fun id b h => by rw [ef247]; exact h)
  have F255 := hx_still (R := (pAdj 48)) (M' := M246) F238 (fun id b h => by rw [ef247]; exact h)
  have F256 := hx_still (R := (pAdj 48)) (M' := M246) G226 (fun id b h => by rw [ef247]; exact h)
  obtain ⟨M257, hL258, E259, hM260⟩ := loop9o hM249 g250 (am := some ⟨b142, 0, none⟩) (mc := c143) (by rw [(show ((mkL size ns 2) ++ [(⟨modI fro (((nMk size) : Nat) : Int), modI tto (((nMk size) : Nat) : Int), modI mde 5, 0⟩ : E4)]).length = (((0 + (mkL size ns 2).length) + [(⟨modI fro (((nMk size) : Nat) : Int), modI tto (((nMk size) : Nat) : Int), modI mde 5, 0⟩ : E4)].length)) from by simp)]; exact g253) (hx_out (R := pAdj 48) F255) (hx_out (R := pAdj 48) F256) (by rw [(show ((mkL size ns 2) ++ [(⟨modI fro (((nMk size) : Nat) : Int), modI tto (((nMk size) : Nat) : Int), modI mde 5, 0⟩ : E4)]).length = (((0 + (mkL size ns 2).length) + [(⟨modI fro (((nMk size) : Nat) : Int), modI tto (((nMk size) : Nat) : Int), modI mde 5, 0⟩ : E4)].length)) from by simp)]; refine own_rows (g := eRow) (w := 4) (el := 32) (l := ((mkL size ns 2) ++ [(⟨modI fro (((nMk size) : Nat) : Int), modI tto (((nMk size) : Nat) : Int), modI mde 5, 0⟩ : E4)])) ?_ (by simp) (fun _ _ => rfl) (by have := (chkN_spec (mk_chk size ns 2)).2.2.1; simp only [List.length_singleton]; omega); rw [show ((((mkL size ns 2) ++ [(⟨modI fro (((nMk size) : Nat) : Int), modI tto (((nMk size) : Nat) : Int), modI mde 5, 0⟩ : E4)])).map eRow).flatten = ((([] : List Value) ++ ((mkL size ns 2).map eRow).flatten) ++ ([(⟨modI fro (((nMk size) : Nat) : Int), modI tto (((nMk size) : Nat) : Int), modI mde 5, 0⟩ : E4)].map eRow).flatten) from by simp]; exact g252) (mk_chk size ns 2) hckB db27b161
  have nx261 := E259.next
  have F262 := hx_ext (R := pEdges) F254 E259
  have F263 := hx_ext (R := (pAdj 48)) F255 E259
  have F264 := hx_ext (R := (pAdj 48)) F256 E259
  have g265 := E259.old g250
  have g266 := E259.old g251
  have g267 := E259.old g252
  have g268 := E259.old g253
  have X269 := X248.trans E259
  have hraw := w9y_raw size ans cns ns fro tto mde M  M3 a12 c13 M18 b27 M28 M37 b52 M53 b65 c66 M67 M85 M100 M115 b128 M129 b142 c143 M144 b161 (Mem.mk M162.blks M162.next (hides 0 [⟨18, 2, M129.next, M144.next⟩, ⟨17, 1, M115.next, M129.next⟩, ⟨15, 1, M100.next, M115.next⟩, ⟨13, 1, M85.next, M100.next⟩, ⟨9, 1, M67.next, M85.next⟩, ⟨5, 1, M53.next, M67.next⟩, ⟨4, 1, M53.next, M53.next⟩, ⟨2, 1, M37.next, M53.next⟩] ++ M37.hide) M162.log) M175 ab206 M210 ab225 M229 M257
  dsimp only at hraw
  have rw0 : Mem.mk M37.blks M37.next M37.hide [] = R45 := eR46.symm
  have rw1 : Mem.mk M53.blks M53.next M37.hide M53.log = M53 := by rw [(show M37.hide = M53.hide from ((X41).hide.trans (X63).hide.symm))]
  have rw2 : Mem.mk M53.blks M53.next (hides 8 [⟨2, 1, M37.next, M53.next⟩] ++ M37.hide) M53.log = hidx (hides 8 [⟨2, 1, M37.next, M53.next⟩]) M53 := by rw [(show M37.hide = M53.hide from ((X41).hide.trans (X63).hide.symm))]; rfl
  have rw3 : Mem.mk M67.blks M67.next M37.hide M67.log = M67 := by rw [(show M37.hide = M67.hide from ((X41).hide.trans (X69).hide.symm))]
  have rw4 : Mem.mk M67.blks M67.next (hides 128 [⟨5, 1, M53.next, M67.next⟩, ⟨4, 1, M53.next, M53.next⟩, ⟨2, 1, M37.next, M53.next⟩] ++ M37.hide) M67.log = hidx (hides 128 [⟨5, 1, M53.next, M67.next⟩, ⟨4, 1, M53.next, M53.next⟩, ⟨2, 1, M37.next, M53.next⟩]) M67 := by rw [(show M37.hide = M67.hide from ((X41).hide.trans (X69).hide.symm))]; rfl
  have rw5 : Mem.mk M85.blks M85.next M37.hide M85.log = M85 := by rw [(show M37.hide = M85.hide from ((X41).hide.trans (X97).hide.symm))]
  have rw6 : Mem.mk M85.blks M85.next (hides 2048 [⟨9, 1, M67.next, M85.next⟩, ⟨5, 1, M53.next, M67.next⟩, ⟨4, 1, M53.next, M53.next⟩, ⟨2, 1, M37.next, M53.next⟩] ++ M37.hide) M85.log = hidx (hides 2048 [⟨9, 1, M67.next, M85.next⟩, ⟨5, 1, M53.next, M67.next⟩, ⟨4, 1, M53.next, M53.next⟩, ⟨2, 1, M37.next, M53.next⟩]) M85 := by rw [(show M37.hide = M85.hide from ((X41).hide.trans (X97).hide.symm))]; rfl
  have rw7 : Mem.mk M100.blks M100.next M37.hide M100.log = M100 := by rw [(show M37.hide = M100.hide from ((X41).hide.trans (X112).hide.symm))]
  have rw8 : Mem.mk M115.blks M115.next M37.hide M115.log = M115 := by rw [(show M37.hide = M115.hide from ((X41).hide.trans (X127).hide.symm))]
  have rw9 : Mem.mk M129.blks M129.next M37.hide M129.log = M129 := by rw [(show M37.hide = M129.hide from ((X41).hide.trans (X140).hide.symm))]
  have rw10 : Mem.mk M144.blks M144.next M37.hide M144.log = M144 := by rw [(show M37.hide = M144.hide from ((X41).hide.trans (X146).hide.symm))]
  have rw11 : Mem.mk M162.blks M162.next M37.hide M162.log = M162 := by rw [(show M37.hide = M162.hide from ((X41).hide.trans (X174).hide.symm))]
  have rw12 : Mem.mk M175.blks M175.next M37.hide M175.log = M175 := by rw [(show M37.hide = M175.hide from ((X41).hide.trans (X179).hide.symm))]
  have rw13 : (Mem.mk M175.blks M175.next M37.hide (M175.log ++ M37.log)) = (Mem.mk M175.blks M175.next M175.hide (M175.log ++ M37.log)) := by rw [(show M37.hide = M175.hide from ((X41).hide.trans (X179).hide.symm))]
  have rw14 : (Mem.mk M175.blks M175.next M175.hide (M175.log ++ M37.log)) = M187 := ef188.symm
  have rw15 : Mem.mk M175.blks M175.next M37.hide [] = R196 := by rw [eR197]; simp only [ef188, (show M37.hide = M175.hide from ((X41).hide.trans (X179).hide.symm))]
  have rw16 : Mem.mk M210.blks M210.next M37.hide M210.log = M210 := by rw [(show M37.hide = M210.hide from ((X41).hide.trans (X224).hide.symm))]
  have rw17 : Mem.mk M210.blks M210.next (hides 0 [⟨1, 1, M175.next, M210.next⟩, ⟨0, 1, M175.next, M175.next⟩] ++ M37.hide) M210.log = hidx (hides 0 [⟨1, 1, M175.next, M210.next⟩, ⟨0, 1, M175.next, M175.next⟩]) M210 := by rw [(show M37.hide = M210.hide from ((X41).hide.trans (X224).hide.symm))]; rfl
  have rw18 : Mem.mk M229.blks M229.next M37.hide M229.log = M229 := by rw [(show M37.hide = M229.hide from ((X41).hide.trans (X244).hide.symm))]
  have rw19 : (Mem.mk M229.blks M229.next M37.hide (M229.log ++ (M175.log ++ M37.log))) = (Mem.mk M229.blks M229.next M229.hide (M229.log ++ (M175.log ++ M37.log))) := by rw [(show M37.hide = M229.hide from ((X41).hide.trans (X244).hide.symm))]
  have rw20 : (Mem.mk M229.blks M229.next M229.hide (M229.log ++ (M175.log ++ M37.log))) = M246 := ef247.symm
  try rw [rw0] at hraw
  try rw [rw1] at hraw
  try rw [rw2] at hraw
  try rw [rw3] at hraw
  try rw [rw4] at hraw
  try rw [rw5] at hraw
  try rw [rw6] at hraw
  try rw [rw7] at hraw
  try rw [rw8] at hraw
  try rw [rw9] at hraw
  try rw [rw10] at hraw
  try rw [rw11] at hraw
  try rw [rw12] at hraw
  try rw [rw13] at hraw
  try rw [rw14] at hraw
  try rw [rw15] at hraw
  try rw [rw16] at hraw
  try rw [rw17] at hraw
  try rw [rw18] at hraw
  try rw [rw19] at hraw
  try rw [rw20] at hraw
  exact ⟨(.bool true), M257, Ev.told_tmp noNumP mixedP Try.func9 q9_ok (by kernel_rfl) rK9 (fun B => specsB_ok (hS9_10_11_12_15 B) (k := [(0, bone (.loop (q9.loopAt 0)) Try.f9.ntmps [11, 12, 13, 14, 15, 16] [some (pt b27 0), some (pt b161 0), some (pt ab206 0), some (pt ab225 0), some (i64 ((((mkL size ns 2).length : Nat) : Int))), some (i64 0)] M246 .normal (fr []) M257)]) (fun p hp => by simp only [List.mem_cons, List.not_mem_nil, or_false] at hp; rcases hp with rfl <;> first | exact BlkOk.loop noNumP mixedP hL258)) (fun _ h => blksF_one h) hraw (hk (q_call rfl p4 l5 e6) (hk (q_call rfl p19 l20 e21) (hk (q_eq (by rw [← eb29, ← em30]; kernel_rfl) Nat.one_ne_zero) (hk (q_st q38) (hk (lC dC3 g50 rfl) (hk (q_lt ltb27M37) (hk (q_eq (by rw [← eb54, ← em55]; kernel_rfl) Nat.one_ne_zero) (hk (lC dC24 (hidx_get.2 ⟨hides_low (by simp; omega), g60⟩) rfl) (hk (q_app (show _ = some (1, _, _) from q68) Nat.one_ne_zero) (hk (lC dC3 (hidx_get.2 ⟨hides_low (by simp; omega), g81⟩) rfl) (hk (q_lt ltb27M37) (hk (q_call rfl p86 l87 e88) (hk (lC dC3 (hidx_get.2 ⟨hides_low (by simp; omega), g94⟩) rfl) (hk (q_lt ltb27M37) (hk (q_call rfl p101 l102 e103) (hk (q_call rfl p116 l117 e118) (hk (q_eq (by rw [← eb130, ← em131]; kernel_rfl) Nat.one_ne_zero) (hk (q_app (show _ = some (2, _, _) from q145) (Nat.succ_ne_zero _)) (hk (q_eq (by rw [← eb163, ← em164]; kernel_rfl) Nat.one_ne_zero) (hk (q_st q176) (hk (q_apart (by rw [lg186]; simp <;> omega)) (hk (lA ⟨dA26, dS26⟩ g201 rfl) (hk (q_call rfl p211 l212 e213) (hk (lA ⟨dA26, dS26⟩ (hidx_get.2 ⟨hides_low (by simp; omega), g222⟩) rfl) (hk (q_lt ltb161M187) (hk (q_call rfl p230 l231 e232) (hk (q_apart (by rw [lg243]; simp <;> omega)) (hk (lC dC24 g250 rfl) (hk (lN (hx_out (R := pEdges) F254).ln) (hk (q_blk rfl) hn)))))))))))))))))))))))))))))), X269, hM260, rfl⟩
end Go.Proofs.Ytipnhelkganmdaa

set_option linter.unusedVariables false
set_option linter.unusedSimpArgs false
open Go Go.Am Go.Proofs
namespace Go.Proofs.Ytipnhelkganmdaa.adjMore
set_option maxRecDepth 100000
set_option linter.unusedVariables false
open Go.ChangeShapes Go.WideShapes Go.ChangeAt Go.RowKit
theorem law_all (size : Int) (fro tto mde : Int) {ans : Option Addr} {cns : Nat} {ns : List Int} {M : Mem} (hM : MemOk M) (hns : pInts ns (.slice ans ns.length cns) M) : ∃ v M', Ev Try.prog [] 9 [i64 size, .slice ans ns.length cns, i64 fro, i64 tto, i64 mde] M v M' ∧ v = .bool true := by
  have hN := nMk_range size
  have r1 := modI_range (x := fro) (n := (((nMk size) : Nat) : Int)) (by omega)
  have r2 := modI_range (x := tto) (n := (((nMk size) : Nat) : Int)) (by omega)
  have r3 := modI_range (x := mde) (n := 5) (by decide)
  have hl : (mkL size ns 2).length < 400 := by unfold mkL; rw [List.length_map, List.length_take]; omega
  have hckB : chkN (((nMk size) : Nat) : Int) ((mkL size ns 2) ++ [(⟨modI fro (((nMk size) : Nat) : Int), modI tto (((nMk size) : Nat) : Int), modI mde 5, 0⟩ : E4)]) = true := more_chk (mk_chk size ns 2) hl (by unfold fitE belB; simp only [Bool.and_eq_true, decide_eq_true_eq]; omega)
  by_cases h0 : (mkL size ns 2).length = 0
  · obtain ⟨v, M', h1, _, _, h2⟩ := w9z size ans cns ns fro tto mde hM hns h0 hckB
    exact ⟨v, M', h1, h2⟩
  · obtain ⟨v, M', h1, _, _, h2⟩ := w9y size ans cns ns fro tto mde hM hns (by omega) hckB
    exact ⟨v, M', h1, h2⟩
theorem contract (H : Type) (enc : TypeId × Value → H) (W : World) (base : Nat) (args : Array Value) (ds gs : List (DataW H)) (before : List MemPlace)
    (hval : ∀ (j : Nat) t v, Try.f9.params[j]? = some t → args[j]? = some v → Value.okWide Try.prog W .any base t v)
    (hW : DataW.Whole enc Try.prog Try.f9.params.toList Rows.adjMoreSpec.vars false W args.toList ds gs before) :
    Calls Try.prog 9 args W fun e W' => ∃ v, e = .returned v ∧ Rows.adjMoreSpec.post enc Try.prog Try.f9 false true false false W args v W' := by
  have hW' := hW
  obtain ⟨p, q, hA0, hV, rfl, hfz, hnd⟩ := hW
  have hpar : Try.f9.params = #[3, 22, 3, 3, 3] := by kernel_rfl
  have hA : DataW.TrodAll enc Try.prog W 0 (fun _ => true) true [3, 22, 3, 3, 3] args.toList ds p := by rw [hpar] at hA0; exact hA0
  rw [hpar] at hval
  have hAll := hA
  obtain ⟨v0, vs0, d0, ds0, p0, q0, hargs, rfl, rfl, h0, r0⟩ := trodAll_cons hA
  obtain ⟨v1, vs1, d1, ds1, p1, q1, rfl, rfl, rfl, h1, r1⟩ := trodAll_cons r0
  obtain ⟨v2, vs2, d2, ds2, p2, q2, rfl, rfl, rfl, h2, r2⟩ := trodAll_cons r1
  obtain ⟨v3, vs3, d3, ds3, p3, q3, rfl, rfl, rfl, h3, r3⟩ := trodAll_cons r2
  obtain ⟨v4, vs4, d4, ds4, p4, q4, rfl, rfl, rfl, h4, r4⟩ := trodAll_cons r3
  obtain ⟨rfl, rfl, rfl⟩ := trodAll_nil r4
  obtain rfl : args = #[v0, v1, v2, v3, v4] := by cases args; simp_all
  obtain ⟨rfl, rfl⟩ := trodVars_none hV
  obtain ⟨x0, rfl, _, _, _⟩ := open_int Try.underlying3 (hval 0 3 v0 rfl rfl) h0
  obtain ⟨x2, rfl, _, _, _⟩ := open_int Try.underlying3 (hval 2 3 v2 rfl rfl) h2
  obtain ⟨x3, rfl, _, _, _⟩ := open_int Try.underlying3 (hval 3 3 v3 rfl rfl) h3
  obtain ⟨x4, rfl, _, _, _⟩ := open_int Try.underlying3 (hval 4 3 v4 rfl rfl) h4
  obtain ⟨m1, bs1, φ1, l1, a1, c1, k11, k12, k13⟩ := open_flatG (intsTy (S := 22) (by kernel_rfl) Try.underlying3 (by kernel_rfl)) (n := 0) (hval 1 22 v1 rfl rfl) h1
  have J1 := k11
  have hhas := J1.has
  obtain ⟨v', M', hev, hv1⟩ := law_all x0 x2 x3 x4 (MemOk.start _ _) (k13 _ hhas)
  subst hv1
  have hlr : LRel φ1 [i64 x0, .slice a1 l1.length c1, i64 x2, i64 x3, i64 x4] [i64 x0, v1, i64 x2, i64 x3, i64 x4] := (.cons (.leaf rfl) (.cons (k12 _ (Emb.le_refl _)) (.cons (.leaf rfl) (.cons (.leaf rfl) (.cons (.leaf rfl) .nil)))))
  refine (calls_ev J1.knows hev hlr).mono fun e W' ⟨φ', v', he, hk, hv, _, _⟩ => ?_
  obtain rfl := hv.bool_inv
  refine ⟨_, he, post_of_kept (pv := []) hW' (fun _ _ _ => trodAll_cons_mk (shut_bool Try.underlying4 _) trodAll_mk0) (fun sp hsp => ?_) (fun _ _ => rfl) rfl hk (ok_one (by kernel_rfl) rfl (okWide_bool_mk Try.underlying4 _))⟩
  rw [hpar]
  exact trodAll_kept laidOut hk (readableB (by kernel_rfl)) hAll (fun p hp => hW'.lt p (List.mem_append_left _ hp)) (fun p hp => hsp p (List.mem_append_left _ hp))
theorem lifted (os : Os) (started : os.Started) (H : Type) (enc : TypeId × Value → H) :
    ReturnsInHanded {} Try.checked os 9 .any (Rows.adjMoreSpec.pre6 enc Try.prog Try.f9 Rows.adjMoreRow.domain false) (Rows.adjMoreSpec.post enc Try.prog Try.f9 false true false false) := by
  refine returnsInHanded_of_change (C := Try.checked) own' started (by kernel_rfl) Try.func9
    (ChangeSpec.witness6 (enc := enc) (C := Try.checked) false ⟨#[], #[.int .i64 0, .slice none 0 0, .int .i64 0, .int .i64 0, .int .i64 0], []⟩ 8 (by kernel_rfl) (by kernel_rfl) (by kernel_rfl) (by kernel_rfl)) ?_
  intro W base args ds gs before hval hW _ _
  exact contract H enc W base args ds gs before hval hW
theorem holds : Rows.AdjMoreSaid :=
  OpenClaim.holds_of_wide 9 Try.f9 rfl rfl rfl rfl rfl rfl rfl ⟨rfl, rfl, rfl, rfl, rfl⟩ rfl rfl rfl rfl rfl (by kernel_rfl) Try.func9 (by kernel_rfl)
    (of_decide_eq_true (by kernel_rfl)) (by unfold Func.isWrapper; first | (rw [if_pos (by decide +kernel)]; kernel_rfl) | (rw [if_neg (by decide +kernel)]; exact ⟨rfl, rfl⟩))
    (fun os started H enc _ => lifted os started H enc)
#print axioms holds
end Go.Proofs.Ytipnhelkganmdaa.adjMore
