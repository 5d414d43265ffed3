/-
  Package adj: each of its laws for every argument; no conditions. The last text states which.
-/
import Derived.Test.YtipnhelkganmdaaGUN5
import Derived.Test.YtipnhelkganmdaaGAmMk
import Derived.Deep.DeepHandedRow
import Derived.OpenShut
import Derived.ProofKit
import Derived.Test.YtipnhelkganmdaaRows
import Derived.Test.YtipnhelkganmdaaChecked
open Go Go.Am Go.Proofs
namespace Go.Proofs.Ytipnhelkganmdaa
set_option maxRecDepth 100000
set_option linter.unusedVariables false
set_option linter.unusedSimpArgs false
instance {nx : Nat} : AP (fun (l : List E4) S M => OwnE nx l S M) := ⟨fun {x y v M} h k => by
  rcases h with ⟨rfl, rfl⟩ | ⟨b, rfl, h1, h2, h3⟩
  · rcases k with ⟨_, rfl⟩ | ⟨b, hb, _⟩
    · rfl
    · cases hb
  · rcases k with ⟨hb, _⟩ | ⟨b', hb, k1, k2, k3⟩
    · cases hb
    · simp only [sli, Value.slice.injEq, Option.some.injEq, Addr.mk.injEq, and_true] at hb
      obtain ⟨e1, e2, _⟩ := hb
      subst e1
      rw [h3] at k3
      have e3 : (x.map eRow).flatten = (y.map eRow).flatten := by simpa using k3
      clear h1 h2 h3 k1 k2 k3
      induction x generalizing y with
      | nil => exact (List.eq_nil_of_length_eq_zero e2.symm).symm
      | cons a x ih => cases y with
        | nil => cases e2
        | cons c y =>
          simp only [List.map_cons, List.flatten_cons, eRow, List.cons_append, List.nil_append, List.cons.injEq] at e3
          obtain ⟨q1, q2, q3, q4, q5⟩ := e3
          rw [ih (by simpa using e2) (by simpa using e2) q5]
          have : eRow a = eRow c := by simp [eRow, q1, q2, q3, q4]
          rw [Inj.inj (g := eRow) _ _ this], fun hE h => OwnE.ext h hE⟩
theorem ownE_hid {nx : Nat} {l : List E4} {S : Value} {M : Mem} (h : OwnE nx l S M) : OwnE nx l S (hid nx M) := h.imp id fun ⟨b, q1, q2, q3, q4⟩ => ⟨b, q1, q2, q3, hid_of q3 q4⟩
instance {nx : Nat} : AP (OwnE nx) := (inferInstance : AP (fun (l : List E4) S M => OwnE nx l S M))
theorem rK6 : Try.f6.results = #[.tmp 6] := by kernel_rfl
theorem hS6_10_11_12_13_16_19 (B : Bd) : ∀ p ∈ ([(10, pick (Con Try.prog [] 10 Q10)), (11, pick (Con Try.prog [] 11 Q11b)), (12, pick (Con Try.prog [] 12 Q12)), (13, pick (Con Try.prog [] 13 Q13)), (16, pick (Con Try.prog [] 16 Q16)), (19, pick (Con Try.prog [] 19 Q19))] : List (FuncId × (List Value → Mem → Option (Value × Mem)))), SpecOk Try.prog [] B p.1 p.2 := (fun p hp => by simp only [List.mem_cons, List.not_mem_nil, or_false] at hp; rcases hp with rfl | rfl | rfl | rfl | rfl | rfl <;> first | exact Con.ok _ | exact TC.ok _)
theorem w6o_raw (size : Int) (ans : Option Addr) (cns : Nat) (ns : List Int) (by_ : Int) (M : Mem) (M3 : Mem) (M17 : Mem) (S12 : Value) (M31 : Mem) (S26 : Value) (b41 : Nat) (M42 : Mem) (b52 : Nat) (M53 : Mem) (M64 : Mem) (M74 : Mem) (ab84 : Nat) (M90 : Mem) (ab103 : Nat) (M109 : Mem) (M123 : Mem) (xb133 : Nat) (M137 : Mem) (M151 : Mem) (a163 : Option Addr) (c164 : Nat) (M168 : Mem) (a183 : Option Addr) (c184 : Nat) (M188 : Mem) : oT Try.prog [0, 2] 140 Try.f6 q6 [(i64 size), (.slice ans ns.length cns), (i64 by_)] M [ttV 3 (.bool true) M3, ttV 12 (.agg ⟨[(i64 (((nMk size : Nat) : Int))), S12]⟩) M17, ttV 18 (.agg ⟨[(i64 (((nMk size : Nat) : Int))), S26]⟩) M31, ttV 20 (pt b41 0) M42, ttV 22 (pt b52 0) M53, ttS 24 M64, ttS 26 M74, ttL 28 (.agg ⟨[(i64 (((nMk size : Nat) : Int))), S12]⟩), ttV 30 (pt ab84 0) M90, ttV 34 (pt ab103 0) M109, .blk 54 [2, 7, 8, 9, 10, 11] .normal (fr [(2, (i64 by_)), (7, (pt b41 0)), (8, (pt b52 0)), (9, (pt ab84 0)), (10, (pt ab103 0))]) M123, ttL 56 (.agg ⟨[(i64 (((nMk size : Nat) : Int))), S26]⟩), ttV 58 (pt xb133 0) M137, .blk 63 [2, 8, 9, 10, 12, 13] .normal (fr [(10, (pt ab103 0))]) M151, ttV 67 (.slice a163 ([] : List Int).length c164) M168, ttT 69, ttT 74, ttT 76, ttV 77 (.slice a183 ([2] : List Int).length c184) M188, ttT 78, ttT 79, ttT 80, ttT 83] 6 = some (.ret, some (.bool ((((([2] : List Int).length : Nat) : Int)) == (1 : Int))), M188, [qC 10 [] M (.bool true) M3, qC 11 [(i64 size), (.slice ans ns.length cns), (i64 2)] M3 (.agg ⟨[(i64 (((nMk size : Nat) : Int))), S12]⟩) M17, qC 11 [(i64 size), (.slice ans ns.length cns), (i64 2)] M17 (.agg ⟨[(i64 (((nMk size : Nat) : Int))), S26]⟩) M31, .eq (aalloc Try.prog 26 M31) (1, .val (pt b41 0), M42), .eq (aalloc Try.prog 26 M42) (1, .val (pt b52 0), M53), qS 26 b41 0 (.agg ⟨[(i64 (((nMk size : Nat) : Int))), S12]⟩) M53 M64, qS 26 b52 0 (.agg ⟨[(i64 (((nMk size : Nat) : Int))), S26]⟩) M64 M74, qL 26 b41 0 M74 (.agg ⟨[(i64 (((nMk size : Nat) : Int))), S12]⟩), qC 12 [(.agg ⟨[(i64 (((nMk size : Nat) : Int))), S12]⟩)] M74 (pt ab84 0) M90, qC 12 [(.agg ⟨[(i64 3), sln]⟩)] M90 (pt ab103 0) M109, .blk 0 (.loop (q6.loopAt 0)) Try.f6.ntmps [2, 7, 8, 9, 10, 11] [some (i64 by_), some (pt b41 0), some (pt b52 0), some (pt ab84 0), some (pt ab103 0), some (i64 0)] M109 .normal (fr [(2, (i64 by_)), (7, (pt b41 0)), (8, (pt b52 0)), (9, (pt ab84 0)), (10, (pt ab103 0))]) M123, qL 26 b52 0 M123 (.agg ⟨[(i64 (((nMk size : Nat) : Int))), S26]⟩), qC 19 [(.agg ⟨[(i64 (((nMk size : Nat) : Int))), S26]⟩)] M123 (pt xb133 0) M137, .blk 2 (.loop (q6.loopAt 2)) Try.f6.ntmps [2, 8, 9, 10, 12, 13] [some (i64 by_), some (pt b52 0), some (pt ab84 0), some (pt ab103 0), some (pt xb133 0), some (i64 0)] M137 .normal (fr [(10, (pt ab103 0))]) M151, qC 13 [(pt ab103 0), (i64 0)] M151 (.slice a163 ([] : List Int).length c164) M168, .ln a163 ([] : List Int).length c164, qT ((((([] : List Int).length : Nat) : Int)) == (0 : Int)), qT ((((([] : List Int).length : Nat) : Int)) == (0 : Int)), qC 16 [(pt ab103 0), (i64 2), (i64 31)] M168 (.slice a183 ([2] : List Int).length c184) M188, qT ((((([] : List Int).length : Nat) : Int)) == (0 : Int)), .ln a183 ([2] : List Int).length c184, qT ((((([] : List Int).length : Nat) : Int)) == (0 : Int)), qT ((((([] : List Int).length : Nat) : Int)) == (0 : Int))]) := by kernel_rfl
theorem w6o (size : Int) (ans : Option Addr) (cns : Nat) (ns : List Int) (by_ : Int) {M : Mem} (hM : MemOk M) (hns : pInts ns (.slice ans ns.length cns) M) (cc0 : ((((([] : List Int).length : Nat) : Int)) == (0 : Int)) = true) : ∃ v_ M', Ev Try.prog [] 6 [(i64 size), (.slice ans ns.length cns), (i64 by_)] M v_ M' ∧ Ext M M' ∧ MemOk M' ∧ v_ = .bool true := by
  obtain ⟨w1, N2, M3, p4, l5, e6, E7, hM8, F9⟩ := call_fc (x := ()) hM con10 (rfl)
  have nx10 := E7.next
  have ew1 : w1 = (.bool true) := F9
  subst ew1
  have X11 := (Ext.refl M).trans E7
  obtain ⟨w15, N16, M17, p18, l19, e20, E21, hM22, F23⟩ := call_fc (x := (size, ns, 2)) hM8 con11b (⟨_, _, _, rfl, rfl, AP.Ext (R := pInts) hns X11, rfl⟩)
  have nx24 := E21.next
  obtain ⟨S12, ew15, O13⟩ : pMkO ((nMk size), (mkL size ns 2)) M3.next w15 M17 := F23
  simp only at ew15
  subst ew15
  have hcS12 : isCell S12 = true := OwnE.cell O13
  have G14 : (OwnE M3.next) (mkL size ns 2) S12 (hidx [(0, M3.next)] M17) := hx_of (R := OwnE M3.next) (ownE_hid O13)
  have X25 := X11.trans E21
  obtain ⟨w29, N30, M31, p32, l33, e34, E35, hM36, F37⟩ := call_fc (x := (size, ns, 2)) hM22 con11b (⟨_, _, _, rfl, rfl, AP.Ext (R := pInts) hns X25, rfl⟩)
  have nx38 := E35.next
  have F39 := hx_ext (R := (OwnE M3.next)) G14 E35
  obtain ⟨S26, ew29, O27⟩ : pMkO ((nMk size), (mkL size ns 2)) M17.next w29 M31 := F37
  simp only at ew29
  subst ew29
  have hcS26 : isCell S26 = true := OwnE.cell O27
  have G28 : pEdges (mkL size ns 2) S26 (hidx [(0, M17.next)] M31) := hx_of (ownE_new O27 (by have := (chkN_spec (mk_chk size ns 2)).2.2.1; omega))
  have X40 := X25.trans E35
  obtain ⟨b41, M42, eb43, em44, g45, E46, hM47⟩ := new_t hM36 ⟨[(i64 0), sln], 26, 2, 0, true⟩
  have nb41 : M.next ≤ b41 := by rw [← eb43]; exact X40.next
  have F48 := hx_new (R := (OwnE M3.next)) F39 eb43 E46
  have F49 := hx_new (R := pEdges) G28 eb43 E46
  have nx50 := E46.next
  have X51 := X40.trans E46
  obtain ⟨b52, M53, eb54, em55, g56, E57, hM58⟩ := new_t hM47 ⟨[(i64 0), sln], 26, 2, 0, true⟩
  have nb52 : M.next ≤ b52 := by rw [← eb54]; exact X51.next
  have db41b52 : b41 ≠ b52 := by have := Mem.lt_of_get g45; omega
  have F59 := hx_new (R := (OwnE M3.next)) F48 eb54 E57
  have F60 := hx_new (R := pEdges) F49 eb54 E57
  have g61 := E57.old g45
  have nx62 := E57.next
  have X63 := X51.trans E57
  obtain ⟨M64, q65, g66, kp67, X68, hM69, nx70⟩ := store_t (o := 0) (v := (.agg ⟨[(i64 (((nMk size : Nat) : Int))), S12]⟩)) (new := [(i64 (((nMk size : Nat) : Int))), S12]) X63 nb41 hM58 dS26 g61 rfl (by show (isCell (i64 _) && (isCell S12 && true)) = true; rw [hcS12]; rfl) (Nat.zero_le _) (Nat.le_of_ble_eq_true rfl) rfl
  replace g66 : M64.get b41 = some ⟨[(i64 (((nMk size : Nat) : Int))), S12], 26, 2, 0, true⟩ := g66
  have F71 := hx_keep (R := (OwnE M3.next)) F59 (fun id h _ => kp67 id h) (by intro id hh; simp only [hidden_con] at hh; omega)
  have F72 := hx_keep (R := pEdges) F60 (fun id h _ => kp67 id h) (by intro id hh; simp only [hidden_con] at hh; omega)
  have g73 := (kp67 _ (Ne.symm db41b52)).trans g56
  obtain ⟨M74, q75, g76, kp77, X78, hM79, nx80⟩ := store_t (o := 0) (v := (.agg ⟨[(i64 (((nMk size : Nat) : Int))), S26]⟩)) (new := [(i64 (((nMk size : Nat) : Int))), S26]) X68 nb52 hM69 dS26 g73 rfl (by show (isCell (i64 _) && (isCell S26 && true)) = true; rw [hcS26]; rfl) (Nat.zero_le _) (Nat.le_of_ble_eq_true rfl) rfl
  replace g76 : M74.get b52 = some ⟨[(i64 (((nMk size : Nat) : Int))), S26], 26, 2, 0, true⟩ := g76
  have F81 := hx_keep (R := (OwnE M3.next)) F71 (fun id h _ => kp77 id h) (by intro id hh; simp only [hidden_con] at hh; omega)
  have F82 := hx_keep (R := pEdges) F72 (fun id h _ => kp77 id h) (by intro id hh; simp only [hidden_con] at hh; omega)
  have g83 := (kp77 _ db41b52).trans g66
  have lt86 := Mem.lt_of_get g83
  have lt87 := Mem.lt_of_get g76
  obtain ⟨w88, N89, M90, p91, l92, e93, E94, hM95, F96⟩ := call_fc (x := ((nMk size), (mkL size ns 2))) hM79 con12 (⟨⟨_, rfl, _, rfl, ownE_edges (hx_out (R := (OwnE M3.next)) F81) (by have := (chkN_spec (mk_chk size ns 2)).2.2.1; omega)⟩, mk_chk size ns 2⟩)
  have nx97 := E94.next
  have F98 := hx_ext (R := (OwnE M3.next)) F81 E94
  have F99 := hx_ext (R := pEdges) F82 E94
  have g100 := E94.old g83
  have g101 := E94.old g76
  have G85 : pAdj 48 (adjM (nMk size) (mkL size ns 2)) w88 (hidx [(0, M74.next)] M90) := hx_of F96
  obtain ⟨ab84, _, _, _, _, ew88, _⟩ := id G85
  subst ew88
  have X102 := X78.trans E94
  have lt105 := Mem.lt_of_get g100
  have lt106 := Mem.lt_of_get g101
  obtain ⟨w107, N108, M109, p110, l111, e112, E113, hM114, F115⟩ := call_fc (x := (3, [])) hM95 con12 (⟨⟨_, rfl, _, rfl, GRowsAt.nil none⟩, chk3⟩)
  have nx116 := E113.next
  have F117 := hx_ext (R := (OwnE M3.next)) F98 E113
  have F118 := hx_ext (R := pEdges) F99 E113
  have F119 := hx_ext (R := (pAdj 48)) G85 E113
  have g120 := E113.old g100
  have g121 := E113.old g101
  have G104 : pAdj 48 (adjM 3 []) w107 (hidx [(0, M90.next)] M109) := hx_of F115
  obtain ⟨ab103, _, _, _, _, ew107, _⟩ := id G104
  subst ew107
  have X122 := X102.trans E113
  obtain ⟨M123, hL124, X125, hM126, kp127⟩ := loop60k hM114 X122 (hx_out (R := (OwnE M3.next)) F117) (X11).next (by have := (chkN_spec (mk_chk size ns 2)).2.2.1; omega) g120 (nx2 := M17.next) (ownE_lt O13) (by omega)
  have g128 := kp127 _ _ g120 (by omega)
  have g129 := kp127 _ _ g121 (by omega)
  have F130 := hx_keeps (R := pEdges) F118 (fun id b hh h => kp127 id b h (by simp only [hidden_con] at hh; omega))
  have F131 := hx_keeps (R := (pAdj 48)) F119 (fun id b hh h => kp127 id b h (by simp only [hidden_con] at hh; omega))
  have F132 := hx_keeps (R := (pAdj 48)) G104 (fun id b hh h => kp127 id b h (by simp only [hidden_con] at hh; omega))
  obtain ⟨w135, N136, M137, p138, l139, e140, E141, hM142, F143⟩ := call_fc (x := ((nMk size), (mkL size ns 2))) hM126 con19 (⟨_, rfl, _, rfl, hx_out (R := pEdges) F130⟩)
  have nx144 := E141.next
  have F145 := hx_ext (R := pEdges) F130 E141
  have F146 := hx_ext (R := (pAdj 48)) F131 E141
  have F147 := hx_ext (R := (pAdj 48)) F132 E141
  have g148 := E141.old g128
  have g149 := E141.old g129
  have G134 : pRefA 59 ((nMk size), (mkL size ns 2)) w135 M137 := F143
  obtain ⟨xb133, _, ew135, _⟩ := id G134
  subst ew135
  have X150 := X125.trans E141
  obtain ⟨M151, hL152, E153, hM154⟩ := loop62o hM142 g149 (hx_out (R := (pAdj 48)) F146) G134 (mk_chk size ns 2)
  have nx155 := E153.next
  have F156 := hx_ext (R := pEdges) F145 E153
  have F157 := hx_ext (R := (pAdj 48)) F146 E153
  have F158 := hx_ext (R := (pAdj 48)) F147 E153
  have F159 := AP.Ext (R := (pRefA 59)) G134 E153
  have g160 := E153.old g148
  have g161 := E153.old g149
  have X162 := X150.trans E153
  obtain ⟨w166, N167, M168, p169, l170, e171, E172, hM173, F174⟩ := call_fc (x := (adjM 3 [], 0)) hM154 con13 (⟨⟨_, _, rfl, hx_out (R := (pAdj 48)) F158, rfl⟩, okA_adjM chk3⟩)
  have nx175 := E172.next
  have F176 := hx_ext (R := pEdges) F156 E172
  have F177 := hx_ext (R := (pAdj 48)) F157 E172
  have F178 := hx_ext (R := (pAdj 48)) F158 E172
  have F179 := AP.Ext (R := (pRefA 59)) F159 E172
  have g180 := E172.old g160
  have g181 := E172.old g161
  have G165 := newR.out (R := pInts) F174
  simp only at G165
  rw [rowV_none chk3 (by decide)] at G165
  obtain ⟨a163, c164, ew166⟩ := GRowsAt.form G165
  subst ew166
  have X182 := X162.trans E172
  obtain ⟨w186, N187, M188, p189, l190, e191, E192, hM193, F194⟩ := call_fc (x := (adjM 3 [], 2, 31)) hM173 con16 (⟨⟨_, _, _, rfl, hx_out (R := (pAdj 48)) F178, rfl, rfl⟩, okR_adjM chk3, by rw [out_len]; decide⟩)
  have nx195 := E192.next
  have F196 := hx_ext (R := pEdges) F176 E192
  have F197 := hx_ext (R := (pAdj 48)) F177 E192
  have F198 := hx_ext (R := (pAdj 48)) F178 E192
  have F199 := AP.Ext (R := (pRefA 59)) F179 E192
  have g200 := E192.old g180
  have g201 := E192.old g181
  have G185 := newR.out (R := pInts) F194
  simp only at G185
  rw [reach_none chk3 (by decide)] at G185
  obtain ⟨a183, c184, ew186⟩ := GRowsAt.form G185
  subst ew186
  have X202 := X182.trans E192
  have hraw := w6o_raw size ans cns ns by_ M  M3 M17 S12 M31 S26 b41 M42 b52 M53 M64 M74 ab84 M90 ab103 M109 M123 xb133 M137 M151 a163 c164 M168 a183 c184 M188
  exact ⟨(.bool ((((([2] : List Int).length : Nat) : Int)) == (1 : Int))), M188, Ev.told_tmp noNumP mixedP Try.func6 q6_ok (by kernel_rfl) rK6 (fun B => specsB_ok (hS6_10_11_12_13_16_19 B) (k := [(0, bone (.loop (q6.loopAt 0)) Try.f6.ntmps [2, 7, 8, 9, 10, 11] [some (i64 by_), some (pt b41 0), some (pt b52 0), some (pt ab84 0), some (pt ab103 0), some (i64 0)] M109 .normal (fr [(2, (i64 by_)), (7, (pt b41 0)), (8, (pt b52 0)), (9, (pt ab84 0)), (10, (pt ab103 0))]) M123), (2, bone (.loop (q6.loopAt 2)) Try.f6.ntmps [2, 8, 9, 10, 12, 13] [some (i64 by_), some (pt b52 0), some (pt ab84 0), some (pt ab103 0), some (pt xb133 0), some (i64 0)] M137 .normal (fr [(10, (pt ab103 0))]) M151)]) (fun p hp => by simp only [List.mem_cons, List.not_mem_nil, or_false] at hp; rcases hp with rfl | rfl <;> first | exact BlkOk.loop noNumP mixedP hL124 | exact BlkOk.loop noNumP mixedP hL152)) (fun _ h => blksF_two h) hraw (hk (q_call rfl p4 l5 e6) (hk (q_call rfl p18 l19 e20) (hk (q_call rfl p32 l33 e34) (hk (q_eq (by rw [← eb43, ← em44]; kernel_rfl) Nat.one_ne_zero) (hk (q_eq (by rw [← eb54, ← em55]; kernel_rfl) Nat.one_ne_zero) (hk (q_st q65) (hk (q_st q75) (hk (lA ⟨dA26, dS26⟩ g83 rfl) (hk (q_call rfl p91 l92 e93) (hk (q_call rfl p110 l111 e112) (hk (q_blk rfl) (hk (lA ⟨dA26, dS26⟩ g129 rfl) (hk (q_call rfl p138 l139 e140) (hk (q_blk rfl) (hk (q_call rfl p169 l170 e171) (hk (lN G165.ln) (hk (bT cc0) (hk (bT cc0) (hk (q_call rfl p189 l190 e191) (hk (bT cc0) (hk (lN G185.ln) (hk (bT cc0) (hk (bT cc0) hn))))))))))))))))))))))), X202, hM193, rfl⟩
end Go.Proofs.Ytipnhelkganmdaa

set_option linter.unusedSimpArgs false
open Go Go.Am Go.Proofs
namespace Go.Proofs.Ytipnhelkganmdaa.adjOwn
set_option maxRecDepth 100000
set_option linter.unusedVariables false
open Go.ChangeShapes Go.WideShapes Go.ChangeAt Go.RowKit
theorem law_all (size : Int) (by_ : Int) {ans : Option Addr} {cns : Nat} {ns : List Int} {M : Mem} (hM : MemOk M) (hns : pInts ns (.slice ans ns.length cns) M) : ∃ v M', Ev Try.prog [] 6 [i64 size, .slice ans ns.length cns, i64 by_] M v M' ∧ v = .bool true := by
  obtain ⟨v, M', h1, _, _, h2⟩ := w6o size ans cns ns by_ hM hns rfl
  exact ⟨v, M', h1, h2⟩
theorem contract (H : Type) (enc : TypeId × Value → H) (W : World) (base : Nat) (args : Array Value) (ds gs : List (DataW H)) (before : List MemPlace)
    (hval : ∀ (j : Nat) t v, Try.f6.params[j]? = some t → args[j]? = some v → Value.okWide Try.prog W .any base t v)
    (hW : DataW.Whole enc Try.prog Try.f6.params.toList Rows.adjOwnSpec.vars false W args.toList ds gs before) :
    Calls Try.prog 6 args W fun e W' => ∃ v, e = .returned v ∧ Rows.adjOwnSpec.post enc Try.prog Try.f6 false true false false W args v W' := by
  have hW' := hW
  obtain ⟨p, q, hA0, hV, rfl, hfz, hnd⟩ := hW
  have hpar : Try.f6.params = #[3, 22, 3] := by kernel_rfl
  have hA : DataW.TrodAll enc Try.prog W 0 (fun _ => true) true [3, 22, 3] args.toList ds p := by rw [hpar] at hA0; exact hA0
  rw [hpar] at hval
  have hAll := hA
  obtain ⟨v0, vs0, d0, ds0, p0, q0, hargs, rfl, rfl, h0, r0⟩ := trodAll_cons hA
  obtain ⟨v1, vs1, d1, ds1, p1, q1, rfl, rfl, rfl, h1, r1⟩ := trodAll_cons r0
  obtain ⟨v2, vs2, d2, ds2, p2, q2, rfl, rfl, rfl, h2, r2⟩ := trodAll_cons r1
  obtain ⟨rfl, rfl, rfl⟩ := trodAll_nil r2
  obtain rfl : args = #[v0, v1, v2] := by cases args; simp_all
  obtain ⟨rfl, rfl⟩ := trodVars_none hV
  obtain ⟨x0, rfl, _, _, _⟩ := open_int Try.underlying3 (hval 0 3 v0 rfl rfl) h0
  obtain ⟨x2, rfl, _, _, _⟩ := open_int Try.underlying3 (hval 2 3 v2 rfl rfl) h2
  obtain ⟨m1, bs1, φ1, l1, a1, c1, k11, k12, k13⟩ := open_flatG (intsTy (S := 22) (by kernel_rfl) Try.underlying3 (by kernel_rfl)) (n := 0) (hval 1 22 v1 rfl rfl) h1
  have J1 := k11
  have hhas := J1.has
  obtain ⟨v', M', hev, hv1⟩ := law_all x0 x2 (MemOk.start _ _) (k13 _ hhas)
  subst hv1
  have hlr : LRel φ1 [i64 x0, .slice a1 l1.length c1, i64 x2] [i64 x0, v1, i64 x2] := (.cons (.leaf rfl) (.cons (k12 _ (Emb.le_refl _)) (.cons (.leaf rfl) .nil)))
  refine (calls_ev J1.knows hev hlr).mono fun e W' ⟨φ', v', he, hk, hv, _, _⟩ => ?_
  obtain rfl := hv.bool_inv
  refine ⟨_, he, post_of_kept (pv := []) hW' (fun _ _ _ => trodAll_cons_mk (shut_bool Try.underlying4 _) trodAll_mk0) (fun sp hsp => ?_) (fun _ _ => rfl) rfl hk (ok_one (by kernel_rfl) rfl (okWide_bool_mk Try.underlying4 _))⟩
  rw [hpar]
  exact trodAll_kept laidOut hk (readableB (by kernel_rfl)) hAll (fun p hp => hW'.lt p (List.mem_append_left _ hp)) (fun p hp => hsp p (List.mem_append_left _ hp))
theorem lifted (os : Os) (started : os.Started) (H : Type) (enc : TypeId × Value → H) :
    ReturnsInHanded {} Try.checked os 6 .any (Rows.adjOwnSpec.pre6 enc Try.prog Try.f6 Rows.adjOwnRow.domain false) (Rows.adjOwnSpec.post enc Try.prog Try.f6 false true false false) := by
  refine returnsInHanded_of_change (C := Try.checked) own' started (by kernel_rfl) Try.func6
    (ChangeSpec.witness6 (enc := enc) (C := Try.checked) false ⟨#[], #[.int .i64 0, .slice none 0 0, .int .i64 0], []⟩ 8 (by kernel_rfl) (by kernel_rfl) (by kernel_rfl) (by kernel_rfl)) ?_
  intro W base args ds gs before hval hW _ _
  exact contract H enc W base args ds gs before hval hW
theorem holds : Rows.AdjOwnSaid :=
  OpenClaim.holds_of_wide 6 Try.f6 rfl rfl rfl rfl rfl rfl rfl ⟨rfl, rfl, rfl, rfl, rfl⟩ rfl rfl rfl rfl rfl (by kernel_rfl) Try.func6 (by kernel_rfl)
    (of_decide_eq_true (by kernel_rfl)) (by unfold Func.isWrapper; first | (rw [if_pos (by decide +kernel)]; kernel_rfl) | (rw [if_neg (by decide +kernel)]; exact ⟨rfl, rfl⟩))
    (fun os started H enc _ => lifted os started H enc)
#print axioms holds
end Go.Proofs.Ytipnhelkganmdaa.adjOwn
