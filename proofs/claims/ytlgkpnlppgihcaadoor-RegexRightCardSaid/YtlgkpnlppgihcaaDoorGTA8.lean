/-
  What is proved: RegexRight: whether any expression is right is what the document's own reading says, and so is one of which one thing was turned. For every argument; the tables are as the program lays them.
-/
import Derived.Test.YtlgkpnlppgihcaaDoorGTA4
import Derived.Test.YtlgkpnlppgihcaaDoorAmNt
open Go Go.Am Go.Proofs
namespace Go.Proofs.YtlgkpnlppgihcaaDoor
set_option maxRecDepth 100000
def mkR (lid ns isl : Nat) (kd _ _ : Int) (_ : Value) (ba bb bc : Nat) (M Ms : Mem) : Prop :=
  ∃ T1 Mf a2 l2 c2, Rd Tryd.prog [] (.block lid (.loop (q29.loopAt lid))) Tryd.f29.ntmps (fr [(1, pt ba 0), (2, pt bb 0), (ns, pt bc 0), (isl, i64 0)]) Ms .normal T1 Mf ∧ [2, ns].map T1.get = [some (pt bb 0), some (pt bc 0)] ∧ Ext M Mf ∧ MemOk Mf ∧
    Mf.get bb = some ⟨[i64 0, i64 0, i64 0, i64 0, sln], 27, 5, 0, true⟩ ∧ Mf.get bc = some ⟨[i64 kd, i64 0, i64 0, i64 0, .slice a2 l2.length c2], 27, 5, 0, true⟩ ∧ NodeAt 5 (hidx [(bb, bb + 1), (0, M.next)] Mf) (.mk [kd, 0, 0, 0] l2) (nd5 kd 0 0 0 (.slice a2 l2.length c2)) ∧ Small (.mk [kd, 0, 0, 0] l2)
abbrev IH29 (l : List DT) : Prop := ∀ t ∈ l, ∀ {M v}, MemOk M → NodeAt 3 M t v → ∃ v' M', Con Tryd.prog [] 29 (Qn 5) [v] M v' M'
theorem con41 {k n : Int} {l : List DT} {a : Option Addr} {c : Nat} {rows : List (List Value)} (ih : IH29 l) (i : Nat) {M : Mem} (hM : MemOk M) (hr : RowsAt 3 M l rows) (hs : SlAt M (.slice a l.length c) l.length rows) :
    ∃ v M', Con Tryd.prog [] 41 (Qn 5) [.agg ⟨[i64 k, i64 n, .slice a l.length c]⟩, i64 ((i : Nat) : Int)] M v M' := by
  by_cases hlt : i < l.length
  · have hc : decide ((((i : Nat) : Int)) < (((l.length : Nat) : Int))) = true := by simp; omega
    rcases id hs with ⟨_, _, h0⟩ | ⟨b, o, c', blk, pre, post, h1, h2⟩
    · omega
    cases h1
    obtain ⟨t, ht⟩ : ∃ t, l[i]? = some t := ⟨l[i], List.getElem?_eq_getElem hlt⟩
    obtain ⟨r, hN, hld⟩ := load_elem (P := Tryd.prog) (ty := 54) hr hs ht dA54 dS54
    obtain ⟨k1, n1, l1, a1, c1, rows1, htt, hr1, _⟩ := hN.three
    rw [hr1] at hN hld
    exact w41_e k n b o l.length c i k1 n1 a1 l1.length c1 t hM (ih t (List.mem_of_getElem? ht)) hN hld hc
  · have hc : decide ((((i : Nat) : Int)) < (((l.length : Nat) : Int))) = false := by simp; omega
    obtain ⟨j, hj, e⟩ := modI_cases (x := IntKind.wrap .i64 (n + (((i : Nat) : Int)))) (n := 5) (by decide)
    match j, hj with
    | 0, _ => exact w41_0 k n a l.length c i hM hs.ln hc e
    | 1, _ => exact w41_1 k n a l.length c i hM hs.ln hc e
    | 2, _ => exact w41_2 k n a l.length c i hM hs.ln hc e
    | 3, _ => exact w41_3 k n a l.length c i hM hs.ln hc e
    | 4, _ => exact w41_4 k n a l.length c i hM hs.ln hc e
theorem hS29b1_41 (B : Nat) : ∀ p ∈ ([(41, pick (Con Tryd.prog [] 41 (Qn 5)))] : List (FuncId × (List Value → Mem → Option (Value × Mem)))), SpecOk Tryd.prog [] B p.1 p.2 := (fun p hp => by simp only [List.mem_cons, List.not_mem_nil, or_false] at hp; rcases hp with rfl <;> first | exact Con.ok _)
theorem mk1_0_raw (k n : Int) (ba bb bc : Nat) (a : Option Addr) (c : Nat) (l : List DT) (Ms : Mem) (y11k y11s y11lo y11hi : Int) (y11a : Option Addr) (y11l : List DT) (y11c : Nat) (M14 : Mem) (b26 : Nat) (M27 : Mem) (b38 : Nat) (M39 M51 : Mem) (y63k y63s y63lo y63hi : Int) (y63a : Option Addr) (y63l : List DT) (y63c : Nat) (M66 : Mem) (b81 : Nat) (M82 : Mem) (b96 : Nat) (M97 M111 : Mem) (y125k y125s y125lo y125hi : Int) (y125a : Option Addr) (y125l : List DT) (y125c : Nat) (M128 : Mem) (b145 : Nat) (M146 : Mem) (b162 : Nat) (M163 M179 : Mem) (y195k y195s y195lo y195hi : Int) (y195a : Option Addr) (y195l : List DT) (y195c : Nat) (M198 : Mem) (b217 : Nat) (M218 : Mem) (b236 : Nat) (M237 M255 : Mem) : oR Tryd.prog [] 90 Tryd.f29 (.block 1 (.loop (q29.loopAt 1))) [(1, (pt ba 0)), (2, (pt bb 0)), (3, (pt bc 0)), (4, (i64 0))] Ms [ttL 30 sln, ttL 32 (nd3 k n (.slice a l.length c)), ttV 36 (nd5 y11k y11s y11lo y11hi (.slice y11a y11l.length y11c)) M14, ttV 38 (sli b26 0 1 2) M27, .at 40 (1, .val (sli b38 0 1 1), M39), ttS 44 M51, ttL 81 (sli b38 0 1 1), ttL 83 (nd3 k n (.slice a l.length c)), ttV 87 (nd5 y63k y63s y63lo y63hi (.slice y63a y63l.length y63c)) M66, ttV 89 (sli b81 0 1 2) M82, .at 91 (2, .val (sli b96 0 2 2), M97), ttS 95 M111, ttL 113 (.slice a l.length c), ttT 115, ttT 120, ttT 122, ttT 125, ttL 132 (sli b96 0 2 2), ttL 134 (nd3 k n (.slice a l.length c)), ttV 138 (nd5 y125k y125s y125lo y125hi (.slice y125a y125l.length y125c)) M128, ttV 140 (sli b145 0 1 2) M146, .at 142 (2, .val (sli b162 0 3 3), M163), ttS 146 M179, ttL 164 (.slice a l.length c), ttT 166, ttT 171, ttT 173, ttT 176, ttL 183 (sli b162 0 3 3), ttL 185 (nd3 k n (.slice a l.length c)), ttV 189 (nd5 y195k y195s y195lo y195hi (.slice y195a y195l.length y195c)) M198, ttV 191 (sli b217 0 1 2) M218, .at 193 (2, .val (sli b236 0 4 4), M237), ttS 197 M255, ttL 215 (.slice a l.length c), ttT 217, ttT 222, ttT 224, ttT 227] [2, 3] = some (.normal, [some (pt bb 0), some (pt bc 0)], (Mem.mk M255.blks M255.next Ms.hide M255.log), [qL 25 bc 4 Ms sln, qL 54 ba 0 (Mem.mk Ms.blks Ms.next (hides 0 [⟨1, 1, Ms.next, Ms.next⟩, ⟨0, 0, Ms.next, Ms.next⟩] ++ Ms.hide) Ms.log) (nd3 k n (.slice a l.length c)), qC 41 [(nd3 k n (.slice a l.length c)), i64 0] (Mem.mk Ms.blks Ms.next (hides 12 [⟨3, 0, Ms.next, Ms.next⟩, ⟨2, 1, Ms.next, Ms.next⟩, ⟨1, 1, Ms.next, Ms.next⟩, ⟨0, 0, Ms.next, Ms.next⟩] ++ Ms.hide) Ms.log) (nd5 y11k y11s y11lo y11hi (.slice y11a y11l.length y11c)) M14, .eq (abuildSlice Tryd.prog 25 1 [(0, (nd5 y11k y11s y11lo y11hi (.slice y11a y11l.length y11c)))] (Mem.mk M14.blks M14.next (hides 28 [⟨4, 1, Ms.next, M14.next⟩, ⟨3, 0, Ms.next, Ms.next⟩, ⟨2, 1, Ms.next, Ms.next⟩, ⟨1, 1, Ms.next, Ms.next⟩, ⟨0, 0, Ms.next, Ms.next⟩] ++ Ms.hide) M14.log)) (1, .val (sli b26 0 1 2), M27), .q (.append [25, 25] sln (sli b26 0 1 2) (Mem.mk M27.blks M27.next Ms.hide M27.log)) (1, .val (sli b38 0 1 1), M39), qS 25 bc 4 (sli b38 0 1 1) (Mem.mk M39.blks M39.next Ms.hide M39.log) M51, qL 25 bc 4 (Mem.mk M51.blks M51.next Ms.hide M51.log) (sli b38 0 1 1), qL 54 ba 0 (Mem.mk M51.blks M51.next (hides 0 [⟨1, 1, M51.next, M51.next⟩, ⟨0, 0, M51.next, M51.next⟩] ++ Ms.hide) M51.log) (nd3 k n (.slice a l.length c)), qC 41 [(nd3 k n (.slice a l.length c)), i64 1] (Mem.mk M51.blks M51.next (hides 12 [⟨3, 0, M51.next, M51.next⟩, ⟨2, 1, M51.next, M51.next⟩, ⟨1, 1, M51.next, M51.next⟩, ⟨0, 0, M51.next, M51.next⟩] ++ Ms.hide) M51.log) (nd5 y63k y63s y63lo y63hi (.slice y63a y63l.length y63c)) M66, .eq (abuildSlice Tryd.prog 25 1 [(0, (nd5 y63k y63s y63lo y63hi (.slice y63a y63l.length y63c)))] (Mem.mk M66.blks M66.next (hides 28 [⟨4, 1, M51.next, M66.next⟩, ⟨3, 0, M51.next, M51.next⟩, ⟨2, 1, M51.next, M51.next⟩, ⟨1, 1, M51.next, M51.next⟩, ⟨0, 0, M51.next, M51.next⟩] ++ Ms.hide) M66.log)) (1, .val (sli b81 0 1 2), M82), .q (.append [25, 25] (sli b38 0 1 1) (sli b81 0 1 2) (Mem.mk M82.blks M82.next Ms.hide M82.log)) (2, .val (sli b96 0 2 2), M97), qS 25 bc 4 (sli b96 0 2 2) (Mem.mk M97.blks M97.next Ms.hide M97.log) M111, qL 22 ba 2 (Mem.mk M111.blks M111.next Ms.hide M111.log) (.slice a l.length c), .ln a l.length c, qT (decide ((2 : Int) < (((l.length : Nat) : Int)))), qT (decide ((2 : Int) < (((l.length : Nat) : Int)))), qT (decide ((2 : Int) < (((l.length : Nat) : Int)))), qL 25 bc 4 (Mem.mk M111.blks M111.next Ms.hide M111.log) (sli b96 0 2 2), qL 54 ba 0 (Mem.mk M111.blks M111.next (hides 0 [⟨1, 1, M111.next, M111.next⟩, ⟨0, 0, M111.next, M111.next⟩] ++ Ms.hide) M111.log) (nd3 k n (.slice a l.length c)), qC 41 [(nd3 k n (.slice a l.length c)), i64 2] (Mem.mk M111.blks M111.next (hides 12 [⟨3, 0, M111.next, M111.next⟩, ⟨2, 1, M111.next, M111.next⟩, ⟨1, 1, M111.next, M111.next⟩, ⟨0, 0, M111.next, M111.next⟩] ++ Ms.hide) M111.log) (nd5 y125k y125s y125lo y125hi (.slice y125a y125l.length y125c)) M128, .eq (abuildSlice Tryd.prog 25 1 [(0, (nd5 y125k y125s y125lo y125hi (.slice y125a y125l.length y125c)))] (Mem.mk M128.blks M128.next (hides 28 [⟨4, 1, M111.next, M128.next⟩, ⟨3, 0, M111.next, M111.next⟩, ⟨2, 1, M111.next, M111.next⟩, ⟨1, 1, M111.next, M111.next⟩, ⟨0, 0, M111.next, M111.next⟩] ++ Ms.hide) M128.log)) (1, .val (sli b145 0 1 2), M146), .q (.append [25, 25] (sli b96 0 2 2) (sli b145 0 1 2) (Mem.mk M146.blks M146.next Ms.hide M146.log)) (2, .val (sli b162 0 3 3), M163), qS 25 bc 4 (sli b162 0 3 3) (Mem.mk M163.blks M163.next Ms.hide M163.log) M179, qL 22 ba 2 (Mem.mk M179.blks M179.next Ms.hide M179.log) (.slice a l.length c), .ln a l.length c, qT (decide ((3 : Int) < (((l.length : Nat) : Int)))), qT (decide ((3 : Int) < (((l.length : Nat) : Int)))), qT (decide ((3 : Int) < (((l.length : Nat) : Int)))), qL 25 bc 4 (Mem.mk M179.blks M179.next Ms.hide M179.log) (sli b162 0 3 3), qL 54 ba 0 (Mem.mk M179.blks M179.next (hides 0 [⟨1, 1, M179.next, M179.next⟩, ⟨0, 0, M179.next, M179.next⟩] ++ Ms.hide) M179.log) (nd3 k n (.slice a l.length c)), qC 41 [(nd3 k n (.slice a l.length c)), i64 3] (Mem.mk M179.blks M179.next (hides 12 [⟨3, 0, M179.next, M179.next⟩, ⟨2, 1, M179.next, M179.next⟩, ⟨1, 1, M179.next, M179.next⟩, ⟨0, 0, M179.next, M179.next⟩] ++ Ms.hide) M179.log) (nd5 y195k y195s y195lo y195hi (.slice y195a y195l.length y195c)) M198, .eq (abuildSlice Tryd.prog 25 1 [(0, (nd5 y195k y195s y195lo y195hi (.slice y195a y195l.length y195c)))] (Mem.mk M198.blks M198.next (hides 28 [⟨4, 1, M179.next, M198.next⟩, ⟨3, 0, M179.next, M179.next⟩, ⟨2, 1, M179.next, M179.next⟩, ⟨1, 1, M179.next, M179.next⟩, ⟨0, 0, M179.next, M179.next⟩] ++ Ms.hide) M198.log)) (1, .val (sli b217 0 1 2), M218), .q (.append [25, 25] (sli b162 0 3 3) (sli b217 0 1 2) (Mem.mk M218.blks M218.next Ms.hide M218.log)) (2, .val (sli b236 0 4 4), M237), qS 25 bc 4 (sli b236 0 4 4) (Mem.mk M237.blks M237.next Ms.hide M237.log) M255, qL 22 ba 2 (Mem.mk M255.blks M255.next Ms.hide M255.log) (.slice a l.length c), .ln a l.length c, qT (decide ((4 : Int) < (((l.length : Nat) : Int)))), qT (decide ((4 : Int) < (((l.length : Nat) : Int)))), qT (decide ((4 : Int) < (((l.length : Nat) : Int))))]) := by kernel_rfl
theorem mk1_0 (k n : Int) (ba bb bc : Nat) (a : Option Addr) (c : Nat) (l : List DT) {M Ms : Mem} {rows : List (List Value)} (ih : IH29 l) (hr : RowsAt 3 M l rows) (hs : SlAt M (.slice a l.length c) l.length rows) (X0 : Ext M Ms) (hM0 : MemOk Ms) (nba : M.next ≤ ba) (_ : M.next ≤ bb) (nbc : M.next ≤ bc) (_ : ba ≠ bb) (dbabc : ba ≠ bc) (dbbbc : bb ≠ bc) (ga : Ms.get ba = some ⟨[i64 k, i64 n, (.slice a l.length c)], 54, 3, 0, true⟩) (gb : Ms.get bb = some ⟨[i64 0, i64 0, i64 0, i64 0, sln], 27, 5, 0, true⟩) (gc : Ms.get bc = some ⟨[i64 4, i64 0, i64 0, i64 0, sln], 27, 5, 0, true⟩) (cc0 : (decide ((2 : Int) < (((l.length : Nat) : Int)))) = true) (cc1 : (decide ((3 : Int) < (((l.length : Nat) : Int)))) = true) (cc2 : (decide ((4 : Int) < (((l.length : Nat) : Int)))) = true) : mkR 1 3 4 4 k n (.slice a l.length c) ba bb bc M Ms := by
  have ltbaMs := Mem.lt_of_get ga
  have ltbbMs := Mem.lt_of_get gb
  have ltbcMs := Mem.lt_of_get gc
  obtain ⟨w12, N13, M14, p15, l16, e17, E18, hM19, Q20, G21⟩ := call_t hM0 (con41 (l := l) (rows := rows) ih 0 (MemOk.log hM0) (RowsAt.Ext X0 hr).log (SlAt.Ext X0 hs).log)
  have g22 := E18.old ga
  have g23 := E18.old gb
  have g24 := E18.old gc
  obtain ⟨y11t, y11S, y11q⟩ := Q20
  obtain ⟨y11k, y11s, y11lo, y11hi, y11l, y11a, y11c, y11r, y11e, y11v, _, _, _⟩ := y11q.five
  subst y11v
  have y11T : NodeAt 5 (hidx [(0, Ms.next)] M14) y11t _ := NodeAt.ext (M := hid Ms.next _) (fun _ _ h => hid_same G21 h) _ _ y11q
  have X25 := X0.trans E18
  obtain ⟨b26, M27, eb28, em29, g30, E31, hM32⟩ := new_t hM19 ⟨[i64 y11k, i64 y11s, i64 y11lo, i64 y11hi, (.slice y11a y11l.length y11c)], 27, 5, 0, true⟩
  have nb26 := nb_of eb28 X25
  have dbab26 := ne_new g22 eb28
  have dbbb26 := ne_new g23 eb28
  have dbcb26 := ne_new g24 eb28
  have hT33 := nt_new eb28 E31 y11T
  have g34 := E31.old g22
  have g35 := E31.old g23
  have g36 := E31.old g24
  have X37 := X25.trans E31
  obtain ⟨b38, M39, eb40, em41, g42, E44, hM43⟩ := new_t hM32 ⟨[i64 y11k, i64 y11s, i64 y11lo, i64 y11hi, (.slice y11a y11l.length y11c)], 27, 5, 0, true⟩
  have nb38 := nb_of eb40 X37
  have dbab38 := ne_new g34 eb40
  have dbbb38 := ne_new g35 eb40
  have dbcb38 := ne_new g36 eb40
  have db26b38 := ne_new g30 eb40
  have hT45 := nt_new eb40 E44 hT33
  have g46 := E44.old g34
  have g47 := E44.old g35
  have g48 := E44.old g36
  have g49 := E44.old g30
  have X50 := X37.trans E44
  obtain ⟨M51, q52, g53, kp54, X55, hM56, nx57⟩ := store_t (o := 4) (v := (sli b38 0 1 1)) (new := [i64 4, i64 0, i64 0, i64 0, (sli b38 0 1 1)]) X50 nbc hM43 dS25 g48 rfl rfl (Nat.zero_le _) (Nat.le_of_ble_eq_true rfl) rfl
  replace g53 : M51.get bc = some ⟨[i64 4, i64 0, i64 0, i64 0, (sli b38 0 1 1)], 27, 5, 0, true⟩ := g53
  have hT58 := nt_keep bc kp54 (by intro id hh; simp only [hidden_cons, hidden_none, or_false] at hh; omega) hT45
  have g59 := (kp54 _ dbabc).trans g46
  have g60 := (kp54 _ dbbbc).trans g47
  have g61 := (kp54 _ (Ne.symm dbcb26)).trans g49
  have g62 := (kp54 _ (Ne.symm dbcb38)).trans g42
  have ltbaM51 := Mem.lt_of_get g59
  have ltbbM51 := Mem.lt_of_get g60
  have ltbcM51 := Mem.lt_of_get g53
  have ltb26M51 := Mem.lt_of_get g61
  have ltb38M51 := Mem.lt_of_get g62
  obtain ⟨w64, N65, M66, p67, l68, e69, E70, hM71, Q72, G73⟩ := call_t hM56 (con41 (l := l) (rows := rows) ih 1 (MemOk.log hM56) (RowsAt.Ext X55 hr).log (SlAt.Ext X55 hs).log)
  have hT74 := nt_ext E70 hT58
  have g75 := E70.old g59
  have g76 := E70.old g60
  have g77 := E70.old g53
  have g78 := E70.old g61
  have g79 := E70.old g62
  obtain ⟨y63t, y63S, y63q⟩ := Q72
  obtain ⟨y63k, y63s, y63lo, y63hi, y63l, y63a, y63c, y63r, y63e, y63v, _, _, _⟩ := y63q.five
  subst y63v
  have y63T : NodeAt 5 (hidx [(0, M51.next)] M66) y63t _ := NodeAt.ext (M := hid M51.next _) (fun _ _ h => hid_same G73 h) _ _ y63q
  have X80 := X55.trans E70
  obtain ⟨b81, M82, eb83, em84, g85, E86, hM87⟩ := new_t hM71 ⟨[i64 y63k, i64 y63s, i64 y63lo, i64 y63hi, (.slice y63a y63l.length y63c)], 27, 5, 0, true⟩
  have nb81 := nb_of eb83 X80
  have dbab81 := ne_new g75 eb83
  have dbbb81 := ne_new g76 eb83
  have dbcb81 := ne_new g77 eb83
  have db26b81 := ne_new g78 eb83
  have db38b81 := ne_new g79 eb83
  have hT88 := nt_new eb83 E86 hT74
  have hT89 := nt_new eb83 E86 y63T
  have g90 := E86.old g75
  have g91 := E86.old g76
  have g92 := E86.old g77
  have g93 := E86.old g78
  have g94 := E86.old g79
  have X95 := X80.trans E86
  obtain ⟨b96, M97, eb98, em99, g100, X103, hM101, kp102⟩ := grow_t X95 nb38 hM87 ⟨[i64 y11k, i64 y11s, i64 y11lo, i64 y11hi, (.slice y11a y11l.length y11c), i64 y63k, i64 y63s, i64 y63lo, i64 y63hi, (.slice y63a y63l.length y63c)], 27, 5, 0, true⟩
  have nb96 := nb_of eb98 X95
  have dbab96 := ne_new g90 eb98
  have dbbb96 := ne_new g91 eb98
  have dbcb96 := ne_new g92 eb98
  have db26b96 := ne_new g93 eb98
  have db38b96 := ne_new g94 eb98
  have db81b96 := ne_new g85 eb98
  have hT104 := nt_grow b38 kp102 eb98 (by intro id hh; simp only [hidden_cons, hidden_none, or_false] at hh; omega) hT88
  have hT105 := nt_grow b38 kp102 eb98 (by intro id hh; simp only [hidden_cons, hidden_none, or_false] at hh; omega) hT89
  have g106 := (kp102 _ dbab38 (Mem.lt_of_get g90)).trans g90
  have g107 := (kp102 _ dbbb38 (Mem.lt_of_get g91)).trans g91
  have g108 := (kp102 _ dbcb38 (Mem.lt_of_get g92)).trans g92
  have g109 := (kp102 _ db26b38 (Mem.lt_of_get g93)).trans g93
  have g110 := (kp102 _ (Ne.symm db38b81) (Mem.lt_of_get g85)).trans g85
  obtain ⟨M111, q112, g113, kp114, X115, hM116, nx117⟩ := store_t (o := 4) (v := (sli b96 0 2 2)) (new := [i64 4, i64 0, i64 0, i64 0, (sli b96 0 2 2)]) X103 nbc hM101 dS25 g108 rfl rfl (Nat.zero_le _) (Nat.le_of_ble_eq_true rfl) rfl
  replace g113 : M111.get bc = some ⟨[i64 4, i64 0, i64 0, i64 0, (sli b96 0 2 2)], 27, 5, 0, true⟩ := g113
  have hT118 := nt_keep bc kp114 (by intro id hh; simp only [hidden_cons, hidden_none, or_false] at hh; omega) hT104
  have hT119 := nt_keep bc kp114 (by intro id hh; simp only [hidden_cons, hidden_none, or_false] at hh; omega) hT105
  have g120 := (kp114 _ dbabc).trans g106
  have g121 := (kp114 _ dbbbc).trans g107
  have g122 := (kp114 _ (Ne.symm dbcb26)).trans g109
  have g123 := (kp114 _ (Ne.symm dbcb81)).trans g110
  have g124 := (kp114 _ (Ne.symm dbcb96)).trans g100
  have ltbaM111 := Mem.lt_of_get g120
  have ltbbM111 := Mem.lt_of_get g121
  have ltbcM111 := Mem.lt_of_get g113
  have ltb26M111 := Mem.lt_of_get g122
  have ltb81M111 := Mem.lt_of_get g123
  have ltb96M111 := Mem.lt_of_get g124
  obtain ⟨w126, N127, M128, p129, l130, e131, E132, hM133, Q134, G135⟩ := call_t hM116 (con41 (l := l) (rows := rows) ih 2 (MemOk.log hM116) (RowsAt.Ext X115 hr).log (SlAt.Ext X115 hs).log)
  have hT136 := nt_ext E132 hT118
  have hT137 := nt_ext E132 hT119
  have g138 := E132.old g120
  have g139 := E132.old g121
  have g140 := E132.old g113
  have g141 := E132.old g122
  have g142 := E132.old g123
  have g143 := E132.old g124
  obtain ⟨y125t, y125S, y125q⟩ := Q134
  obtain ⟨y125k, y125s, y125lo, y125hi, y125l, y125a, y125c, y125r, y125e, y125v, _, _, _⟩ := y125q.five
  subst y125v
  have y125T : NodeAt 5 (hidx [(0, M111.next)] M128) y125t _ := NodeAt.ext (M := hid M111.next _) (fun _ _ h => hid_same G135 h) _ _ y125q
  have X144 := X115.trans E132
  obtain ⟨b145, M146, eb147, em148, g149, E150, hM151⟩ := new_t hM133 ⟨[i64 y125k, i64 y125s, i64 y125lo, i64 y125hi, (.slice y125a y125l.length y125c)], 27, 5, 0, true⟩
  have nb145 := nb_of eb147 X144
  have dbab145 := ne_new g138 eb147
  have dbbb145 := ne_new g139 eb147
  have dbcb145 := ne_new g140 eb147
  have db26b145 := ne_new g141 eb147
  have db81b145 := ne_new g142 eb147
  have db96b145 := ne_new g143 eb147
  have hT152 := nt_new eb147 E150 hT136
  have hT153 := nt_new eb147 E150 hT137
  have hT154 := nt_new eb147 E150 y125T
  have g155 := E150.old g138
  have g156 := E150.old g139
  have g157 := E150.old g140
  have g158 := E150.old g141
  have g159 := E150.old g142
  have g160 := E150.old g143
  have X161 := X144.trans E150
  obtain ⟨b162, M163, eb164, em165, g166, X169, hM167, kp168⟩ := grow_t X161 nb96 hM151 ⟨[i64 y11k, i64 y11s, i64 y11lo, i64 y11hi, (.slice y11a y11l.length y11c), i64 y63k, i64 y63s, i64 y63lo, i64 y63hi, (.slice y63a y63l.length y63c), i64 y125k, i64 y125s, i64 y125lo, i64 y125hi, (.slice y125a y125l.length y125c)], 27, 5, 0, true⟩
  have nb162 := nb_of eb164 X161
  have dbab162 := ne_new g155 eb164
  have dbbb162 := ne_new g156 eb164
  have dbcb162 := ne_new g157 eb164
  have db26b162 := ne_new g158 eb164
  have db81b162 := ne_new g159 eb164
  have db96b162 := ne_new g160 eb164
  have db145b162 := ne_new g149 eb164
  have hT170 := nt_grow b96 kp168 eb164 (by intro id hh; simp only [hidden_cons, hidden_none, or_false] at hh; omega) hT152
  have hT171 := nt_grow b96 kp168 eb164 (by intro id hh; simp only [hidden_cons, hidden_none, or_false] at hh; omega) hT153
  have hT172 := nt_grow b96 kp168 eb164 (by intro id hh; simp only [hidden_cons, hidden_none, or_false] at hh; omega) hT154
  have g173 := (kp168 _ dbab96 (Mem.lt_of_get g155)).trans g155
  have g174 := (kp168 _ dbbb96 (Mem.lt_of_get g156)).trans g156
  have g175 := (kp168 _ dbcb96 (Mem.lt_of_get g157)).trans g157
  have g176 := (kp168 _ db26b96 (Mem.lt_of_get g158)).trans g158
  have g177 := (kp168 _ db81b96 (Mem.lt_of_get g159)).trans g159
  have g178 := (kp168 _ (Ne.symm db96b145) (Mem.lt_of_get g149)).trans g149
  obtain ⟨M179, q180, g181, kp182, X183, hM184, nx185⟩ := store_t (o := 4) (v := (sli b162 0 3 3)) (new := [i64 4, i64 0, i64 0, i64 0, (sli b162 0 3 3)]) X169 nbc hM167 dS25 g175 rfl rfl (Nat.zero_le _) (Nat.le_of_ble_eq_true rfl) rfl
  replace g181 : M179.get bc = some ⟨[i64 4, i64 0, i64 0, i64 0, (sli b162 0 3 3)], 27, 5, 0, true⟩ := g181
  have hT186 := nt_keep bc kp182 (by intro id hh; simp only [hidden_cons, hidden_none, or_false] at hh; omega) hT170
  have hT187 := nt_keep bc kp182 (by intro id hh; simp only [hidden_cons, hidden_none, or_false] at hh; omega) hT171
  have hT188 := nt_keep bc kp182 (by intro id hh; simp only [hidden_cons, hidden_none, or_false] at hh; omega) hT172
  have g189 := (kp182 _ dbabc).trans g173
  have g190 := (kp182 _ dbbbc).trans g174
  have g191 := (kp182 _ (Ne.symm dbcb26)).trans g176
  have g192 := (kp182 _ (Ne.symm dbcb81)).trans g177
  have g193 := (kp182 _ (Ne.symm dbcb145)).trans g178
  have g194 := (kp182 _ (Ne.symm dbcb162)).trans g166
  have ltbaM179 := Mem.lt_of_get g189
  have ltbbM179 := Mem.lt_of_get g190
  have ltbcM179 := Mem.lt_of_get g181
  have ltb26M179 := Mem.lt_of_get g191
  have ltb81M179 := Mem.lt_of_get g192
  have ltb145M179 := Mem.lt_of_get g193
  have ltb162M179 := Mem.lt_of_get g194
  obtain ⟨w196, N197, M198, p199, l200, e201, E202, hM203, Q204, G205⟩ := call_t hM184 (con41 (l := l) (rows := rows) ih 3 (MemOk.log hM184) (RowsAt.Ext X183 hr).log (SlAt.Ext X183 hs).log)
  have hT206 := nt_ext E202 hT186
  have hT207 := nt_ext E202 hT187
  have hT208 := nt_ext E202 hT188
  have g209 := E202.old g189
  have g210 := E202.old g190
  have g211 := E202.old g181
  have g212 := E202.old g191
  have g213 := E202.old g192
  have g214 := E202.old g193
  have g215 := E202.old g194
  obtain ⟨y195t, y195S, y195q⟩ := Q204
  obtain ⟨y195k, y195s, y195lo, y195hi, y195l, y195a, y195c, y195r, y195e, y195v, _, _, _⟩ := y195q.five
  subst y195v
  have y195T : NodeAt 5 (hidx [(0, M179.next)] M198) y195t _ := NodeAt.ext (M := hid M179.next _) (fun _ _ h => hid_same G205 h) _ _ y195q
  have X216 := X183.trans E202
  obtain ⟨b217, M218, eb219, em220, g221, E222, hM223⟩ := new_t hM203 ⟨[i64 y195k, i64 y195s, i64 y195lo, i64 y195hi, (.slice y195a y195l.length y195c)], 27, 5, 0, true⟩
  have nb217 := nb_of eb219 X216
  have dbab217 := ne_new g209 eb219
  have dbbb217 := ne_new g210 eb219
  have dbcb217 := ne_new g211 eb219
  have db26b217 := ne_new g212 eb219
  have db81b217 := ne_new g213 eb219
  have db145b217 := ne_new g214 eb219
  have db162b217 := ne_new g215 eb219
  have hT224 := nt_new eb219 E222 hT206
  have hT225 := nt_new eb219 E222 hT207
  have hT226 := nt_new eb219 E222 hT208
  have hT227 := nt_new eb219 E222 y195T
  have g228 := E222.old g209
  have g229 := E222.old g210
  have g230 := E222.old g211
  have g231 := E222.old g212
  have g232 := E222.old g213
  have g233 := E222.old g214
  have g234 := E222.old g215
  have X235 := X216.trans E222
  obtain ⟨b236, M237, eb238, em239, g240, X243, hM241, kp242⟩ := grow_t X235 nb162 hM223 ⟨[i64 y11k, i64 y11s, i64 y11lo, i64 y11hi, (.slice y11a y11l.length y11c), i64 y63k, i64 y63s, i64 y63lo, i64 y63hi, (.slice y63a y63l.length y63c), i64 y125k, i64 y125s, i64 y125lo, i64 y125hi, (.slice y125a y125l.length y125c), i64 y195k, i64 y195s, i64 y195lo, i64 y195hi, (.slice y195a y195l.length y195c)], 27, 5, 0, true⟩
  have nb236 := nb_of eb238 X235
  have dbab236 := ne_new g228 eb238
  have dbbb236 := ne_new g229 eb238
  have dbcb236 := ne_new g230 eb238
  have db26b236 := ne_new g231 eb238
  have db81b236 := ne_new g232 eb238
  have db145b236 := ne_new g233 eb238
  have db162b236 := ne_new g234 eb238
  have db217b236 := ne_new g221 eb238
  have hT244 := nt_grow b162 kp242 eb238 (by intro id hh; simp only [hidden_cons, hidden_none, or_false] at hh; omega) hT224
  have hT245 := nt_grow b162 kp242 eb238 (by intro id hh; simp only [hidden_cons, hidden_none, or_false] at hh; omega) hT225
  have hT246 := nt_grow b162 kp242 eb238 (by intro id hh; simp only [hidden_cons, hidden_none, or_false] at hh; omega) hT226
  have hT247 := nt_grow b162 kp242 eb238 (by intro id hh; simp only [hidden_cons, hidden_none, or_false] at hh; omega) hT227
  have g248 := (kp242 _ dbab162 (Mem.lt_of_get g228)).trans g228
  have g249 := (kp242 _ dbbb162 (Mem.lt_of_get g229)).trans g229
  have g250 := (kp242 _ dbcb162 (Mem.lt_of_get g230)).trans g230
  have g251 := (kp242 _ db26b162 (Mem.lt_of_get g231)).trans g231
  have g252 := (kp242 _ db81b162 (Mem.lt_of_get g232)).trans g232
  have g253 := (kp242 _ db145b162 (Mem.lt_of_get g233)).trans g233
  have g254 := (kp242 _ (Ne.symm db162b217) (Mem.lt_of_get g221)).trans g221
  obtain ⟨M255, q256, g257, kp258, X259, hM260, nx261⟩ := store_t (o := 4) (v := (sli b236 0 4 4)) (new := [i64 4, i64 0, i64 0, i64 0, (sli b236 0 4 4)]) X243 nbc hM241 dS25 g250 rfl rfl (Nat.zero_le _) (Nat.le_of_ble_eq_true rfl) rfl
  replace g257 : M255.get bc = some ⟨[i64 4, i64 0, i64 0, i64 0, (sli b236 0 4 4)], 27, 5, 0, true⟩ := g257
  have hT262 := nt_keep bc kp258 (by intro id hh; simp only [hidden_cons, hidden_none, or_false] at hh; omega) hT244
  have hT263 := nt_keep bc kp258 (by intro id hh; simp only [hidden_cons, hidden_none, or_false] at hh; omega) hT245
  have hT264 := nt_keep bc kp258 (by intro id hh; simp only [hidden_cons, hidden_none, or_false] at hh; omega) hT246
  have hT265 := nt_keep bc kp258 (by intro id hh; simp only [hidden_cons, hidden_none, or_false] at hh; omega) hT247
  have g266 := (kp258 _ dbabc).trans g248
  have g267 := (kp258 _ dbbbc).trans g249
  have g268 := (kp258 _ (Ne.symm dbcb26)).trans g251
  have g269 := (kp258 _ (Ne.symm dbcb81)).trans g252
  have g270 := (kp258 _ (Ne.symm dbcb145)).trans g253
  have g271 := (kp258 _ (Ne.symm dbcb217)).trans g254
  have g272 := (kp258 _ (Ne.symm dbcb236)).trans g240
  have hraw := mk1_0_raw k n ba bb bc a c l Ms y11k y11s y11lo y11hi y11a y11l y11c M14 b26 M27 b38 M39 M51 y63k y63s y63lo y63hi y63a y63l y63c M66 b81 M82 b96 M97 M111 y125k y125s y125lo y125hi y125a y125l y125c M128 b145 M146 b162 M163 M179 y195k y195s y195lo y195hi y195a y195l y195c M198 b217 M218 b236 M237 M255
  have rw0 : Mem.mk Ms.blks Ms.next (hides 0 [⟨1, 1, Ms.next, Ms.next⟩, ⟨0, 0, Ms.next, Ms.next⟩] ++ Ms.hide) Ms.log = Ms := by rw [show hides 0 [⟨1, 1, Ms.next, Ms.next⟩, ⟨0, 0, Ms.next, Ms.next⟩] = [] from by simp [hides, Nat.beq_refl, show Nat.beq 1 0 = false from rfl]]; rfl
  have rw1 : Mem.mk Ms.blks Ms.next (hides 0 [⟨2, 1, Ms.next, Ms.next⟩, ⟨1, 1, Ms.next, Ms.next⟩, ⟨0, 0, Ms.next, Ms.next⟩] ++ Ms.hide) Ms.log = Ms := by rw [show hides 0 [⟨2, 1, Ms.next, Ms.next⟩, ⟨1, 1, Ms.next, Ms.next⟩, ⟨0, 0, Ms.next, Ms.next⟩] = [] from by simp [hides, Nat.beq_refl, show Nat.beq 1 0 = false from rfl]]; rfl
  have rw2 : Mem.mk Ms.blks Ms.next (hides 12 [⟨3, 0, Ms.next, Ms.next⟩, ⟨2, 1, Ms.next, Ms.next⟩, ⟨1, 1, Ms.next, Ms.next⟩, ⟨0, 0, Ms.next, Ms.next⟩] ++ Ms.hide) Ms.log = Ms := by rw [show hides 12 [⟨3, 0, Ms.next, Ms.next⟩, ⟨2, 1, Ms.next, Ms.next⟩, ⟨1, 1, Ms.next, Ms.next⟩, ⟨0, 0, Ms.next, Ms.next⟩] = [] from by simp [hides, Nat.beq_refl, show Nat.beq 1 0 = false from rfl, show Nat.testBit 12 2 = true from rfl]]; rfl
  have rw3 := mk_eq (X0) (X25)
  have rw4 := mk_hides (d := 28) (l := [⟨4, 1, Ms.next, M14.next⟩, ⟨3, 0, Ms.next, Ms.next⟩, ⟨2, 1, Ms.next, Ms.next⟩, ⟨1, 1, Ms.next, Ms.next⟩, ⟨0, 0, Ms.next, Ms.next⟩]) (by simp [hides, Nat.beq_refl, show Nat.beq 1 0 = false from rfl, show Nat.testBit 28 2 = true from rfl, show Nat.testBit 28 4 = true from rfl]) (X0) (X25)
  have rw5 := mk_eq (X0) (X37)
  have rw6 := mk_eq (X0) (X50)
  have rw7 := mk_eq (X0) (X55)
  have rw8 := mk_hides (d := 0) (l := [⟨1, 1, M51.next, M51.next⟩, ⟨0, 0, M51.next, M51.next⟩]) (by simp [hides, Nat.beq_refl, show Nat.beq 1 0 = false from rfl]) (X0) (X55)
  have rw9 := mk_hides (d := 0) (l := [⟨2, 1, M51.next, M51.next⟩, ⟨1, 1, M51.next, M51.next⟩, ⟨0, 0, M51.next, M51.next⟩]) (by simp [hides, Nat.beq_refl, show Nat.beq 1 0 = false from rfl]) (X0) (X55)
  have rw10 := mk_hides (d := 12) (l := [⟨3, 0, M51.next, M51.next⟩, ⟨2, 1, M51.next, M51.next⟩, ⟨1, 1, M51.next, M51.next⟩, ⟨0, 0, M51.next, M51.next⟩]) (by simp [hides, Nat.beq_refl, show Nat.beq 1 0 = false from rfl, show Nat.testBit 12 2 = true from rfl]) (X0) (X55)
  have rw11 := mk_eq (X0) (X80)
  have rw12 := mk_hides (d := 28) (l := [⟨4, 1, M51.next, M66.next⟩, ⟨3, 0, M51.next, M51.next⟩, ⟨2, 1, M51.next, M51.next⟩, ⟨1, 1, M51.next, M51.next⟩, ⟨0, 0, M51.next, M51.next⟩]) (by simp [hides, Nat.beq_refl, show Nat.beq 1 0 = false from rfl, show Nat.testBit 28 2 = true from rfl, show Nat.testBit 28 4 = true from rfl]) (X0) (X80)
  have rw13 := mk_eq (X0) (X95)
  have rw14 := mk_eq (X0) (X103)
  have rw15 := mk_eq (X0) (X115)
  have rw16 := mk_hides (d := 0) (l := [⟨1, 1, M111.next, M111.next⟩, ⟨0, 0, M111.next, M111.next⟩]) (by simp [hides, Nat.beq_refl, show Nat.beq 1 0 = false from rfl]) (X0) (X115)
  have rw17 := mk_hides (d := 0) (l := [⟨2, 1, M111.next, M111.next⟩, ⟨1, 1, M111.next, M111.next⟩, ⟨0, 0, M111.next, M111.next⟩]) (by simp [hides, Nat.beq_refl, show Nat.beq 1 0 = false from rfl]) (X0) (X115)
  have rw18 := mk_hides (d := 12) (l := [⟨3, 0, M111.next, M111.next⟩, ⟨2, 1, M111.next, M111.next⟩, ⟨1, 1, M111.next, M111.next⟩, ⟨0, 0, M111.next, M111.next⟩]) (by simp [hides, Nat.beq_refl, show Nat.beq 1 0 = false from rfl, show Nat.testBit 12 2 = true from rfl]) (X0) (X115)
  have rw19 := mk_eq (X0) (X144)
  have rw20 := mk_hides (d := 28) (l := [⟨4, 1, M111.next, M128.next⟩, ⟨3, 0, M111.next, M111.next⟩, ⟨2, 1, M111.next, M111.next⟩, ⟨1, 1, M111.next, M111.next⟩, ⟨0, 0, M111.next, M111.next⟩]) (by simp [hides, Nat.beq_refl, show Nat.beq 1 0 = false from rfl, show Nat.testBit 28 2 = true from rfl, show Nat.testBit 28 4 = true from rfl]) (X0) (X144)
  have rw21 := mk_eq (X0) (X161)
  have rw22 := mk_eq (X0) (X169)
  have rw23 := mk_eq (X0) (X183)
  have rw24 := mk_hides (d := 0) (l := [⟨1, 1, M179.next, M179.next⟩, ⟨0, 0, M179.next, M179.next⟩]) (by simp [hides, Nat.beq_refl, show Nat.beq 1 0 = false from rfl]) (X0) (X183)
  have rw25 := mk_hides (d := 0) (l := [⟨2, 1, M179.next, M179.next⟩, ⟨1, 1, M179.next, M179.next⟩, ⟨0, 0, M179.next, M179.next⟩]) (by simp [hides, Nat.beq_refl, show Nat.beq 1 0 = false from rfl]) (X0) (X183)
  have rw26 := mk_hides (d := 12) (l := [⟨3, 0, M179.next, M179.next⟩, ⟨2, 1, M179.next, M179.next⟩, ⟨1, 1, M179.next, M179.next⟩, ⟨0, 0, M179.next, M179.next⟩]) (by simp [hides, Nat.beq_refl, show Nat.beq 1 0 = false from rfl, show Nat.testBit 12 2 = true from rfl]) (X0) (X183)
  have rw27 := mk_eq (X0) (X216)
  have rw28 := mk_hides (d := 28) (l := [⟨4, 1, M179.next, M198.next⟩, ⟨3, 0, M179.next, M179.next⟩, ⟨2, 1, M179.next, M179.next⟩, ⟨1, 1, M179.next, M179.next⟩, ⟨0, 0, M179.next, M179.next⟩]) (by simp [hides, Nat.beq_refl, show Nat.beq 1 0 = false from rfl, show Nat.testBit 28 2 = true from rfl, show Nat.testBit 28 4 = true from rfl]) (X0) (X216)
  have rw29 := mk_eq (X0) (X235)
  have rw30 := mk_eq (X0) (X243)
  have rw31 := mk_eq (X0) (X259)
  try rw [rw0] at hraw
  try rw [rw1] at hraw
  try rw [rw2] at hraw
  try rw [rw3] at hraw
  try rw [rw4] at hraw
  try rw [rw5] at hraw
  try rw [rw6] at hraw
  try rw [rw7] at hraw
  try rw [rw8] at hraw
  try rw [rw9] at hraw
  try rw [rw10] at hraw
  try rw [rw11] at hraw
  try rw [rw12] at hraw
  try rw [rw13] at hraw
  try rw [rw14] at hraw
  try rw [rw15] at hraw
  try rw [rw16] at hraw
  try rw [rw17] at hraw
  try rw [rw18] at hraw
  try rw [rw19] at hraw
  try rw [rw20] at hraw
  try rw [rw21] at hraw
  try rw [rw22] at hraw
  try rw [rw23] at hraw
  try rw [rw24] at hraw
  try rw [rw25] at hraw
  try rw [rw26] at hraw
  try rw [rw27] at hraw
  try rw [rw28] at hraw
  try rw [rw29] at hraw
  try rw [rw30] at hraw
  try rw [rw31] at hraw
  obtain ⟨T1, h1, h2⟩ := Rd.told noNumP mixedP (sK hS29b1_41) (fun _ _ => rfl) hraw (hk (lC dC25 gc rfl) (hk (lA ⟨dA54, dS54⟩ ga rfl) (hk (q_call rfl p15 l16 e17) (hk (q_eq (by rw [← eb28, ← em29]; kernel_rfl) Nat.one_ne_zero) (hk (q_app (by rw [← eb40, ← em41]; exact append_nil (w := 5) (by kernel_rfl) (by kernel_rfl) (y := 56) (by kernel_rfl) (by decide) (by decide) g30 rfl rfl rfl) Nat.one_ne_zero) (hk (q_st q52) (hk (lC dC25 g53 rfl) (hk (lA ⟨dA54, dS54⟩ g59 rfl) (hk (q_call rfl p67 l68 e69) (hk (q_eq (by rw [← eb83, ← em84]; kernel_rfl) Nat.one_ne_zero) (hk (q_app (by rw [← eb98, ← em99]; exact append_more (w := 5) (by kernel_rfl) (by kernel_rfl) (y := 56) (by kernel_rfl) (by decide) (by decide) (by decide) g85 rfl rfl rfl g94 rfl rfl rfl rfl rfl) (Nat.succ_ne_zero _)) (hk (q_st q112) (hk (lC dC22 g120 rfl) (hk (lN hs.ln) (hk (bT cc0) (hk (bT cc0) (hk (bT cc0) (hk (lC dC25 g113 rfl) (hk (lA ⟨dA54, dS54⟩ g120 rfl) (hk (q_call rfl p129 l130 e131) (hk (q_eq (by rw [← eb147, ← em148]; kernel_rfl) Nat.one_ne_zero) (hk (q_app (by rw [← eb164, ← em165]; exact append_more (w := 5) (by kernel_rfl) (by kernel_rfl) (y := 56) (by kernel_rfl) (by decide) (by decide) (by decide) g149 rfl rfl rfl g160 rfl rfl rfl rfl rfl) (Nat.succ_ne_zero _)) (hk (q_st q180) (hk (lC dC22 g189 rfl) (hk (lN hs.ln) (hk (bT cc1) (hk (bT cc1) (hk (bT cc1) (hk (lC dC25 g181 rfl) (hk (lA ⟨dA54, dS54⟩ g189 rfl) (hk (q_call rfl p199 l200 e201) (hk (q_eq (by rw [← eb219, ← em220]; kernel_rfl) Nat.one_ne_zero) (hk (q_app (by rw [← eb238, ← em239]; exact append_more (w := 5) (by kernel_rfl) (by kernel_rfl) (y := 56) (by kernel_rfl) (by decide) (by decide) (by decide) g221 rfl rfl rfl g234 rfl rfl rfl rfl rfl) (Nat.succ_ne_zero _)) (hk (q_st q256) (hk (lC dC22 g266 rfl) (hk (lN hs.ln) (hk (bT cc2) (hk (bT cc2) (hk (bT cc2) hn)))))))))))))))))))))))))))))))))))))))
  exact ⟨T1, M255, (some ⟨b236, 0, none⟩), [y11t, y63t, y125t, y195t], 4, h1, h2, X259, hM260, g267, g257, NodeAt.mk5 (M := hidx [(bb, bb + 1), (0, M.next)] M255) (l := [y11t, y63t, y125t, y195t]) (rows := [[i64 y11k, i64 y11s, i64 y11lo, i64 y11hi, (.slice y11a y11l.length y11c)], [i64 y63k, i64 y63s, i64 y63lo, i64 y63hi, (.slice y63a y63l.length y63c)], [i64 y125k, i64 y125s, i64 y125lo, i64 y125hi, (.slice y125a y125l.length y125c)], [i64 y195k, i64 y195s, i64 y195lo, i64 y195hi, (.slice y195a y195l.length y195c)]]) 4 0 0 0 (hidx_get.2 ⟨by simp only [hidden_cons, hidden_none, or_false]; omega, g272⟩) rfl rfl (RowsAt.cons (NodeAt.ext (M := hidx [(b236, b236 + 1), (b217, b217 + 1), (b162, b162 + 1), (b145, b145 + 1), (b96, b96 + 1), (b81, b81 + 1), (b38, b38 + 1), (b26, b26 + 1), (0, Ms.next)] M255) (M' := hidx [(bb, bb + 1), (0, M.next)] M255) (fun _ _ h => hidx_mono (H := [(b236, b236 + 1), (b217, b217 + 1), (b162, b162 + 1), (b145, b145 + 1), (b96, b96 + 1), (b81, b81 + 1), (b38, b38 + 1), (b26, b26 + 1), (0, Ms.next)]) (H' := [(bb, bb + 1), (0, M.next)]) (fun id hh => by have := (X0).next; simp only [hidden_cons, hidden_none, or_false] at hh ⊢; omega) h) _ _ hT262) (RowsAt.cons (NodeAt.ext (M := hidx [(b236, b236 + 1), (b217, b217 + 1), (b162, b162 + 1), (b145, b145 + 1), (b96, b96 + 1), (b81, b81 + 1), (0, M51.next)] M255) (M' := hidx [(bb, bb + 1), (0, M.next)] M255) (fun _ _ h => hidx_mono (H := [(b236, b236 + 1), (b217, b217 + 1), (b162, b162 + 1), (b145, b145 + 1), (b96, b96 + 1), (b81, b81 + 1), (0, M51.next)]) (H' := [(bb, bb + 1), (0, M.next)]) (fun id hh => by have := (X55).next; simp only [hidden_cons, hidden_none, or_false] at hh ⊢; omega) h) _ _ hT263) (RowsAt.cons (NodeAt.ext (M := hidx [(b236, b236 + 1), (b217, b217 + 1), (b162, b162 + 1), (b145, b145 + 1), (0, M111.next)] M255) (M' := hidx [(bb, bb + 1), (0, M.next)] M255) (fun _ _ h => hidx_mono (H := [(b236, b236 + 1), (b217, b217 + 1), (b162, b162 + 1), (b145, b145 + 1), (0, M111.next)]) (H' := [(bb, bb + 1), (0, M.next)]) (fun id hh => by have := (X115).next; simp only [hidden_cons, hidden_none, or_false] at hh ⊢; omega) h) _ _ hT264) (RowsAt.one (NodeAt.ext (M := hidx [(b236, b236 + 1), (b217, b217 + 1), (0, M179.next)] M255) (M' := hidx [(bb, bb + 1), (0, M.next)] M255) (fun _ _ h => hidx_mono (H := [(b236, b236 + 1), (b217, b217 + 1), (0, M179.next)]) (H' := [(bb, bb + 1), (0, M.next)]) (fun id hh => by have := (X183).next; simp only [hidden_cons, hidden_none, or_false] at hh ⊢; omega) h) _ _ hT265))))) (by simp), (by first | assumption | exact Small.mk (by simp) (by repeat' first | exact Small.n0 | assumption | refine Small.c ?_ ?_))⟩
theorem mk1_1_raw (k n : Int) (ba bb bc : Nat) (a : Option Addr) (c : Nat) (l : List DT) (Ms : Mem) (y11k y11s y11lo y11hi : Int) (y11a : Option Addr) (y11l : List DT) (y11c : Nat) (M14 : Mem) (b26 : Nat) (M27 : Mem) (b38 : Nat) (M39 M51 : Mem) (y63k y63s y63lo y63hi : Int) (y63a : Option Addr) (y63l : List DT) (y63c : Nat) (M66 : Mem) (b81 : Nat) (M82 : Mem) (b96 : Nat) (M97 M111 : Mem) (y125k y125s y125lo y125hi : Int) (y125a : Option Addr) (y125l : List DT) (y125c : Nat) (M128 : Mem) (b145 : Nat) (M146 : Mem) (b162 : Nat) (M163 M179 : Mem) (y195k y195s y195lo y195hi : Int) (y195a : Option Addr) (y195l : List DT) (y195c : Nat) (M198 : Mem) (b217 : Nat) (M218 : Mem) (b236 : Nat) (M237 M255 : Mem) : oR Tryd.prog [] 90 Tryd.f29 (.block 1 (.loop (q29.loopAt 1))) [(1, (pt ba 0)), (2, (pt bb 0)), (3, (pt bc 0)), (4, (i64 0))] Ms [ttL 30 sln, ttL 32 (nd3 k n (.slice a l.length c)), ttV 36 (nd5 y11k y11s y11lo y11hi (.slice y11a y11l.length y11c)) M14, ttV 38 (sli b26 0 1 2) M27, .at 40 (1, .val (sli b38 0 1 1), M39), ttS 44 M51, ttL 81 (sli b38 0 1 1), ttL 83 (nd3 k n (.slice a l.length c)), ttV 87 (nd5 y63k y63s y63lo y63hi (.slice y63a y63l.length y63c)) M66, ttV 89 (sli b81 0 1 2) M82, .at 91 (2, .val (sli b96 0 2 2), M97), ttS 95 M111, ttL 113 (.slice a l.length c), ttT 115, ttT 120, ttT 122, ttT 125, ttL 132 (sli b96 0 2 2), ttL 134 (nd3 k n (.slice a l.length c)), ttV 138 (nd5 y125k y125s y125lo y125hi (.slice y125a y125l.length y125c)) M128, ttV 140 (sli b145 0 1 2) M146, .at 142 (2, .val (sli b162 0 3 3), M163), ttS 146 M179, ttL 164 (.slice a l.length c), ttT 166, ttT 171, ttT 173, ttT 176, ttL 183 (sli b162 0 3 3), ttL 185 (nd3 k n (.slice a l.length c)), ttV 189 (nd5 y195k y195s y195lo y195hi (.slice y195a y195l.length y195c)) M198, ttV 191 (sli b217 0 1 2) M218, .at 193 (2, .val (sli b236 0 4 4), M237), ttS 197 M255, ttL 215 (.slice a l.length c), ttT 217, ttF 222, ttF 224, ttF 227] [2, 3] = some (.normal, [some (pt bb 0), some (pt bc 0)], (Mem.mk M255.blks M255.next Ms.hide M255.log), [qL 25 bc 4 Ms sln, qL 54 ba 0 (Mem.mk Ms.blks Ms.next (hides 0 [⟨1, 1, Ms.next, Ms.next⟩, ⟨0, 0, Ms.next, Ms.next⟩] ++ Ms.hide) Ms.log) (nd3 k n (.slice a l.length c)), qC 41 [(nd3 k n (.slice a l.length c)), i64 0] (Mem.mk Ms.blks Ms.next (hides 12 [⟨3, 0, Ms.next, Ms.next⟩, ⟨2, 1, Ms.next, Ms.next⟩, ⟨1, 1, Ms.next, Ms.next⟩, ⟨0, 0, Ms.next, Ms.next⟩] ++ Ms.hide) Ms.log) (nd5 y11k y11s y11lo y11hi (.slice y11a y11l.length y11c)) M14, .eq (abuildSlice Tryd.prog 25 1 [(0, (nd5 y11k y11s y11lo y11hi (.slice y11a y11l.length y11c)))] (Mem.mk M14.blks M14.next (hides 28 [⟨4, 1, Ms.next, M14.next⟩, ⟨3, 0, Ms.next, Ms.next⟩, ⟨2, 1, Ms.next, Ms.next⟩, ⟨1, 1, Ms.next, Ms.next⟩, ⟨0, 0, Ms.next, Ms.next⟩] ++ Ms.hide) M14.log)) (1, .val (sli b26 0 1 2), M27), .q (.append [25, 25] sln (sli b26 0 1 2) (Mem.mk M27.blks M27.next Ms.hide M27.log)) (1, .val (sli b38 0 1 1), M39), qS 25 bc 4 (sli b38 0 1 1) (Mem.mk M39.blks M39.next Ms.hide M39.log) M51, qL 25 bc 4 (Mem.mk M51.blks M51.next Ms.hide M51.log) (sli b38 0 1 1), qL 54 ba 0 (Mem.mk M51.blks M51.next (hides 0 [⟨1, 1, M51.next, M51.next⟩, ⟨0, 0, M51.next, M51.next⟩] ++ Ms.hide) M51.log) (nd3 k n (.slice a l.length c)), qC 41 [(nd3 k n (.slice a l.length c)), i64 1] (Mem.mk M51.blks M51.next (hides 12 [⟨3, 0, M51.next, M51.next⟩, ⟨2, 1, M51.next, M51.next⟩, ⟨1, 1, M51.next, M51.next⟩, ⟨0, 0, M51.next, M51.next⟩] ++ Ms.hide) M51.log) (nd5 y63k y63s y63lo y63hi (.slice y63a y63l.length y63c)) M66, .eq (abuildSlice Tryd.prog 25 1 [(0, (nd5 y63k y63s y63lo y63hi (.slice y63a y63l.length y63c)))] (Mem.mk M66.blks M66.next (hides 28 [⟨4, 1, M51.next, M66.next⟩, ⟨3, 0, M51.next, M51.next⟩, ⟨2, 1, M51.next, M51.next⟩, ⟨1, 1, M51.next, M51.next⟩, ⟨0, 0, M51.next, M51.next⟩] ++ Ms.hide) M66.log)) (1, .val (sli b81 0 1 2), M82), .q (.append [25, 25] (sli b38 0 1 1) (sli b81 0 1 2) (Mem.mk M82.blks M82.next Ms.hide M82.log)) (2, .val (sli b96 0 2 2), M97), qS 25 bc 4 (sli b96 0 2 2) (Mem.mk M97.blks M97.next Ms.hide M97.log) M111, qL 22 ba 2 (Mem.mk M111.blks M111.next Ms.hide M111.log) (.slice a l.length c), .ln a l.length c, qT (decide ((2 : Int) < (((l.length : Nat) : Int)))), qT (decide ((2 : Int) < (((l.length : Nat) : Int)))), qT (decide ((2 : Int) < (((l.length : Nat) : Int)))), qL 25 bc 4 (Mem.mk M111.blks M111.next Ms.hide M111.log) (sli b96 0 2 2), qL 54 ba 0 (Mem.mk M111.blks M111.next (hides 0 [⟨1, 1, M111.next, M111.next⟩, ⟨0, 0, M111.next, M111.next⟩] ++ Ms.hide) M111.log) (nd3 k n (.slice a l.length c)), qC 41 [(nd3 k n (.slice a l.length c)), i64 2] (Mem.mk M111.blks M111.next (hides 12 [⟨3, 0, M111.next, M111.next⟩, ⟨2, 1, M111.next, M111.next⟩, ⟨1, 1, M111.next, M111.next⟩, ⟨0, 0, M111.next, M111.next⟩] ++ Ms.hide) M111.log) (nd5 y125k y125s y125lo y125hi (.slice y125a y125l.length y125c)) M128, .eq (abuildSlice Tryd.prog 25 1 [(0, (nd5 y125k y125s y125lo y125hi (.slice y125a y125l.length y125c)))] (Mem.mk M128.blks M128.next (hides 28 [⟨4, 1, M111.next, M128.next⟩, ⟨3, 0, M111.next, M111.next⟩, ⟨2, 1, M111.next, M111.next⟩, ⟨1, 1, M111.next, M111.next⟩, ⟨0, 0, M111.next, M111.next⟩] ++ Ms.hide) M128.log)) (1, .val (sli b145 0 1 2), M146), .q (.append [25, 25] (sli b96 0 2 2) (sli b145 0 1 2) (Mem.mk M146.blks M146.next Ms.hide M146.log)) (2, .val (sli b162 0 3 3), M163), qS 25 bc 4 (sli b162 0 3 3) (Mem.mk M163.blks M163.next Ms.hide M163.log) M179, qL 22 ba 2 (Mem.mk M179.blks M179.next Ms.hide M179.log) (.slice a l.length c), .ln a l.length c, qT (decide ((3 : Int) < (((l.length : Nat) : Int)))), qT (decide ((3 : Int) < (((l.length : Nat) : Int)))), qT (decide ((3 : Int) < (((l.length : Nat) : Int)))), qL 25 bc 4 (Mem.mk M179.blks M179.next Ms.hide M179.log) (sli b162 0 3 3), qL 54 ba 0 (Mem.mk M179.blks M179.next (hides 0 [⟨1, 1, M179.next, M179.next⟩, ⟨0, 0, M179.next, M179.next⟩] ++ Ms.hide) M179.log) (nd3 k n (.slice a l.length c)), qC 41 [(nd3 k n (.slice a l.length c)), i64 3] (Mem.mk M179.blks M179.next (hides 12 [⟨3, 0, M179.next, M179.next⟩, ⟨2, 1, M179.next, M179.next⟩, ⟨1, 1, M179.next, M179.next⟩, ⟨0, 0, M179.next, M179.next⟩] ++ Ms.hide) M179.log) (nd5 y195k y195s y195lo y195hi (.slice y195a y195l.length y195c)) M198, .eq (abuildSlice Tryd.prog 25 1 [(0, (nd5 y195k y195s y195lo y195hi (.slice y195a y195l.length y195c)))] (Mem.mk M198.blks M198.next (hides 28 [⟨4, 1, M179.next, M198.next⟩, ⟨3, 0, M179.next, M179.next⟩, ⟨2, 1, M179.next, M179.next⟩, ⟨1, 1, M179.next, M179.next⟩, ⟨0, 0, M179.next, M179.next⟩] ++ Ms.hide) M198.log)) (1, .val (sli b217 0 1 2), M218), .q (.append [25, 25] (sli b162 0 3 3) (sli b217 0 1 2) (Mem.mk M218.blks M218.next Ms.hide M218.log)) (2, .val (sli b236 0 4 4), M237), qS 25 bc 4 (sli b236 0 4 4) (Mem.mk M237.blks M237.next Ms.hide M237.log) M255, qL 22 ba 2 (Mem.mk M255.blks M255.next Ms.hide M255.log) (.slice a l.length c), .ln a l.length c, qF (decide ((4 : Int) < (((l.length : Nat) : Int)))), qF (decide ((4 : Int) < (((l.length : Nat) : Int)))), qF (decide ((4 : Int) < (((l.length : Nat) : Int))))]) := by kernel_rfl
theorem mk1_1 (k n : Int) (ba bb bc : Nat) (a : Option Addr) (c : Nat) (l : List DT) {M Ms : Mem} {rows : List (List Value)} (ih : IH29 l) (hr : RowsAt 3 M l rows) (hs : SlAt M (.slice a l.length c) l.length rows) (X0 : Ext M Ms) (hM0 : MemOk Ms) (nba : M.next ≤ ba) (_ : M.next ≤ bb) (nbc : M.next ≤ bc) (_ : ba ≠ bb) (dbabc : ba ≠ bc) (dbbbc : bb ≠ bc) (ga : Ms.get ba = some ⟨[i64 k, i64 n, (.slice a l.length c)], 54, 3, 0, true⟩) (gb : Ms.get bb = some ⟨[i64 0, i64 0, i64 0, i64 0, sln], 27, 5, 0, true⟩) (gc : Ms.get bc = some ⟨[i64 4, i64 0, i64 0, i64 0, sln], 27, 5, 0, true⟩) (cc0 : (decide ((2 : Int) < (((l.length : Nat) : Int)))) = true) (cc1 : (decide ((3 : Int) < (((l.length : Nat) : Int)))) = true) (cc2 : (decide ((4 : Int) < (((l.length : Nat) : Int)))) = false) : mkR 1 3 4 4 k n (.slice a l.length c) ba bb bc M Ms := by
  have ltbaMs := Mem.lt_of_get ga
  have ltbbMs := Mem.lt_of_get gb
  have ltbcMs := Mem.lt_of_get gc
  obtain ⟨w12, N13, M14, p15, l16, e17, E18, hM19, Q20, G21⟩ := call_t hM0 (con41 (l := l) (rows := rows) ih 0 (MemOk.log hM0) (RowsAt.Ext X0 hr).log (SlAt.Ext X0 hs).log)
  have g22 := E18.old ga
  have g23 := E18.old gb
  have g24 := E18.old gc
  obtain ⟨y11t, y11S, y11q⟩ := Q20
  obtain ⟨y11k, y11s, y11lo, y11hi, y11l, y11a, y11c, y11r, y11e, y11v, _, _, _⟩ := y11q.five
  subst y11v
  have y11T : NodeAt 5 (hidx [(0, Ms.next)] M14) y11t _ := NodeAt.ext (M := hid Ms.next _) (fun _ _ h => hid_same G21 h) _ _ y11q
  have X25 := X0.trans E18
  obtain ⟨b26, M27, eb28, em29, g30, E31, hM32⟩ := new_t hM19 ⟨[i64 y11k, i64 y11s, i64 y11lo, i64 y11hi, (.slice y11a y11l.length y11c)], 27, 5, 0, true⟩
  have nb26 := nb_of eb28 X25
  have dbab26 := ne_new g22 eb28
  have dbbb26 := ne_new g23 eb28
  have dbcb26 := ne_new g24 eb28
  have hT33 := nt_new eb28 E31 y11T
  have g34 := E31.old g22
  have g35 := E31.old g23
  have g36 := E31.old g24
  have X37 := X25.trans E31
  obtain ⟨b38, M39, eb40, em41, g42, E44, hM43⟩ := new_t hM32 ⟨[i64 y11k, i64 y11s, i64 y11lo, i64 y11hi, (.slice y11a y11l.length y11c)], 27, 5, 0, true⟩
  have nb38 := nb_of eb40 X37
  have dbab38 := ne_new g34 eb40
  have dbbb38 := ne_new g35 eb40
  have dbcb38 := ne_new g36 eb40
  have db26b38 := ne_new g30 eb40
  have hT45 := nt_new eb40 E44 hT33
  have g46 := E44.old g34
  have g47 := E44.old g35
  have g48 := E44.old g36
  have g49 := E44.old g30
  have X50 := X37.trans E44
  obtain ⟨M51, q52, g53, kp54, X55, hM56, nx57⟩ := store_t (o := 4) (v := (sli b38 0 1 1)) (new := [i64 4, i64 0, i64 0, i64 0, (sli b38 0 1 1)]) X50 nbc hM43 dS25 g48 rfl rfl (Nat.zero_le _) (Nat.le_of_ble_eq_true rfl) rfl
  replace g53 : M51.get bc = some ⟨[i64 4, i64 0, i64 0, i64 0, (sli b38 0 1 1)], 27, 5, 0, true⟩ := g53
  have hT58 := nt_keep bc kp54 (by intro id hh; simp only [hidden_cons, hidden_none, or_false] at hh; omega) hT45
  have g59 := (kp54 _ dbabc).trans g46
  have g60 := (kp54 _ dbbbc).trans g47
  have g61 := (kp54 _ (Ne.symm dbcb26)).trans g49
  have g62 := (kp54 _ (Ne.symm dbcb38)).trans g42
  have ltbaM51 := Mem.lt_of_get g59
  have ltbbM51 := Mem.lt_of_get g60
  have ltbcM51 := Mem.lt_of_get g53
  have ltb26M51 := Mem.lt_of_get g61
  have ltb38M51 := Mem.lt_of_get g62
  obtain ⟨w64, N65, M66, p67, l68, e69, E70, hM71, Q72, G73⟩ := call_t hM56 (con41 (l := l) (rows := rows) ih 1 (MemOk.log hM56) (RowsAt.Ext X55 hr).log (SlAt.Ext X55 hs).log)
  have hT74 := nt_ext E70 hT58
  have g75 := E70.old g59
  have g76 := E70.old g60
  have g77 := E70.old g53
  have g78 := E70.old g61
  have g79 := E70.old g62
  obtain ⟨y63t, y63S, y63q⟩ := Q72
  obtain ⟨y63k, y63s, y63lo, y63hi, y63l, y63a, y63c, y63r, y63e, y63v, _, _, _⟩ := y63q.five
  subst y63v
  have y63T : NodeAt 5 (hidx [(0, M51.next)] M66) y63t _ := NodeAt.ext (M := hid M51.next _) (fun _ _ h => hid_same G73 h) _ _ y63q
  have X80 := X55.trans E70
  obtain ⟨b81, M82, eb83, em84, g85, E86, hM87⟩ := new_t hM71 ⟨[i64 y63k, i64 y63s, i64 y63lo, i64 y63hi, (.slice y63a y63l.length y63c)], 27, 5, 0, true⟩
  have nb81 := nb_of eb83 X80
  have dbab81 := ne_new g75 eb83
  have dbbb81 := ne_new g76 eb83
  have dbcb81 := ne_new g77 eb83
  have db26b81 := ne_new g78 eb83
  have db38b81 := ne_new g79 eb83
  have hT88 := nt_new eb83 E86 hT74
  have hT89 := nt_new eb83 E86 y63T
  have g90 := E86.old g75
  have g91 := E86.old g76
  have g92 := E86.old g77
  have g93 := E86.old g78
  have g94 := E86.old g79
  have X95 := X80.trans E86
  obtain ⟨b96, M97, eb98, em99, g100, X103, hM101, kp102⟩ := grow_t X95 nb38 hM87 ⟨[i64 y11k, i64 y11s, i64 y11lo, i64 y11hi, (.slice y11a y11l.length y11c), i64 y63k, i64 y63s, i64 y63lo, i64 y63hi, (.slice y63a y63l.length y63c)], 27, 5, 0, true⟩
  have nb96 := nb_of eb98 X95
  have dbab96 := ne_new g90 eb98
  have dbbb96 := ne_new g91 eb98
  have dbcb96 := ne_new g92 eb98
  have db26b96 := ne_new g93 eb98
  have db38b96 := ne_new g94 eb98
  have db81b96 := ne_new g85 eb98
  have hT104 := nt_grow b38 kp102 eb98 (by intro id hh; simp only [hidden_cons, hidden_none, or_false] at hh; omega) hT88
  have hT105 := nt_grow b38 kp102 eb98 (by intro id hh; simp only [hidden_cons, hidden_none, or_false] at hh; omega) hT89
  have g106 := (kp102 _ dbab38 (Mem.lt_of_get g90)).trans g90
  have g107 := (kp102 _ dbbb38 (Mem.lt_of_get g91)).trans g91
  have g108 := (kp102 _ dbcb38 (Mem.lt_of_get g92)).trans g92
  have g109 := (kp102 _ db26b38 (Mem.lt_of_get g93)).trans g93
  have g110 := (kp102 _ (Ne.symm db38b81) (Mem.lt_of_get g85)).trans g85
  obtain ⟨M111, q112, g113, kp114, X115, hM116, nx117⟩ := store_t (o := 4) (v := (sli b96 0 2 2)) (new := [i64 4, i64 0, i64 0, i64 0, (sli b96 0 2 2)]) X103 nbc hM101 dS25 g108 rfl rfl (Nat.zero_le _) (Nat.le_of_ble_eq_true rfl) rfl
  replace g113 : M111.get bc = some ⟨[i64 4, i64 0, i64 0, i64 0, (sli b96 0 2 2)], 27, 5, 0, true⟩ := g113
  have hT118 := nt_keep bc kp114 (by intro id hh; simp only [hidden_cons, hidden_none, or_false] at hh; omega) hT104
  have hT119 := nt_keep bc kp114 (by intro id hh; simp only [hidden_cons, hidden_none, or_false] at hh; omega) hT105
  have g120 := (kp114 _ dbabc).trans g106
  have g121 := (kp114 _ dbbbc).trans g107
  have g122 := (kp114 _ (Ne.symm dbcb26)).trans g109
  have g123 := (kp114 _ (Ne.symm dbcb81)).trans g110
  have g124 := (kp114 _ (Ne.symm dbcb96)).trans g100
  have ltbaM111 := Mem.lt_of_get g120
  have ltbbM111 := Mem.lt_of_get g121
  have ltbcM111 := Mem.lt_of_get g113
  have ltb26M111 := Mem.lt_of_get g122
  have ltb81M111 := Mem.lt_of_get g123
  have ltb96M111 := Mem.lt_of_get g124
  obtain ⟨w126, N127, M128, p129, l130, e131, E132, hM133, Q134, G135⟩ := call_t hM116 (con41 (l := l) (rows := rows) ih 2 (MemOk.log hM116) (RowsAt.Ext X115 hr).log (SlAt.Ext X115 hs).log)
  have hT136 := nt_ext E132 hT118
  have hT137 := nt_ext E132 hT119
  have g138 := E132.old g120
  have g139 := E132.old g121
  have g140 := E132.old g113
  have g141 := E132.old g122
  have g142 := E132.old g123
  have g143 := E132.old g124
  obtain ⟨y125t, y125S, y125q⟩ := Q134
  obtain ⟨y125k, y125s, y125lo, y125hi, y125l, y125a, y125c, y125r, y125e, y125v, _, _, _⟩ := y125q.five
  subst y125v
  have y125T : NodeAt 5 (hidx [(0, M111.next)] M128) y125t _ := NodeAt.ext (M := hid M111.next _) (fun _ _ h => hid_same G135 h) _ _ y125q
  have X144 := X115.trans E132
  obtain ⟨b145, M146, eb147, em148, g149, E150, hM151⟩ := new_t hM133 ⟨[i64 y125k, i64 y125s, i64 y125lo, i64 y125hi, (.slice y125a y125l.length y125c)], 27, 5, 0, true⟩
  have nb145 := nb_of eb147 X144
  have dbab145 := ne_new g138 eb147
  have dbbb145 := ne_new g139 eb147
  have dbcb145 := ne_new g140 eb147
  have db26b145 := ne_new g141 eb147
  have db81b145 := ne_new g142 eb147
  have db96b145 := ne_new g143 eb147
  have hT152 := nt_new eb147 E150 hT136
  have hT153 := nt_new eb147 E150 hT137
  have hT154 := nt_new eb147 E150 y125T
  have g155 := E150.old g138
  have g156 := E150.old g139
  have g157 := E150.old g140
  have g158 := E150.old g141
  have g159 := E150.old g142
  have g160 := E150.old g143
  have X161 := X144.trans E150
  obtain ⟨b162, M163, eb164, em165, g166, X169, hM167, kp168⟩ := grow_t X161 nb96 hM151 ⟨[i64 y11k, i64 y11s, i64 y11lo, i64 y11hi, (.slice y11a y11l.length y11c), i64 y63k, i64 y63s, i64 y63lo, i64 y63hi, (.slice y63a y63l.length y63c), i64 y125k, i64 y125s, i64 y125lo, i64 y125hi, (.slice y125a y125l.length y125c)], 27, 5, 0, true⟩
  have nb162 := nb_of eb164 X161
  have dbab162 := ne_new g155 eb164
  have dbbb162 := ne_new g156 eb164
  have dbcb162 := ne_new g157 eb164
  have db26b162 := ne_new g158 eb164
  have db81b162 := ne_new g159 eb164
  have db96b162 := ne_new g160 eb164
  have db145b162 := ne_new g149 eb164
  have hT170 := nt_grow b96 kp168 eb164 (by intro id hh; simp only [hidden_cons, hidden_none, or_false] at hh; omega) hT152
  have hT171 := nt_grow b96 kp168 eb164 (by intro id hh; simp only [hidden_cons, hidden_none, or_false] at hh; omega) hT153
  have hT172 := nt_grow b96 kp168 eb164 (by intro id hh; simp only [hidden_cons, hidden_none, or_false] at hh; omega) hT154
  have g173 := (kp168 _ dbab96 (Mem.lt_of_get g155)).trans g155
  have g174 := (kp168 _ dbbb96 (Mem.lt_of_get g156)).trans g156
  have g175 := (kp168 _ dbcb96 (Mem.lt_of_get g157)).trans g157
  have g176 := (kp168 _ db26b96 (Mem.lt_of_get g158)).trans g158
  have g177 := (kp168 _ db81b96 (Mem.lt_of_get g159)).trans g159
  have g178 := (kp168 _ (Ne.symm db96b145) (Mem.lt_of_get g149)).trans g149
  obtain ⟨M179, q180, g181, kp182, X183, hM184, nx185⟩ := store_t (o := 4) (v := (sli b162 0 3 3)) (new := [i64 4, i64 0, i64 0, i64 0, (sli b162 0 3 3)]) X169 nbc hM167 dS25 g175 rfl rfl (Nat.zero_le _) (Nat.le_of_ble_eq_true rfl) rfl
  replace g181 : M179.get bc = some ⟨[i64 4, i64 0, i64 0, i64 0, (sli b162 0 3 3)], 27, 5, 0, true⟩ := g181
  have hT186 := nt_keep bc kp182 (by intro id hh; simp only [hidden_cons, hidden_none, or_false] at hh; omega) hT170
  have hT187 := nt_keep bc kp182 (by intro id hh; simp only [hidden_cons, hidden_none, or_false] at hh; omega) hT171
  have hT188 := nt_keep bc kp182 (by intro id hh; simp only [hidden_cons, hidden_none, or_false] at hh; omega) hT172
  have g189 := (kp182 _ dbabc).trans g173
  have g190 := (kp182 _ dbbbc).trans g174
  have g191 := (kp182 _ (Ne.symm dbcb26)).trans g176
  have g192 := (kp182 _ (Ne.symm dbcb81)).trans g177
  have g193 := (kp182 _ (Ne.symm dbcb145)).trans g178
  have g194 := (kp182 _ (Ne.symm dbcb162)).trans g166
  have ltbaM179 := Mem.lt_of_get g189
  have ltbbM179 := Mem.lt_of_get g190
  have ltbcM179 := Mem.lt_of_get g181
  have ltb26M179 := Mem.lt_of_get g191
  have ltb81M179 := Mem.lt_of_get g192
  have ltb145M179 := Mem.lt_of_get g193
  have ltb162M179 := Mem.lt_of_get g194
  obtain ⟨w196, N197, M198, p199, l200, e201, E202, hM203, Q204, G205⟩ := call_t hM184 (con41 (l := l) (rows := rows) ih 3 (MemOk.log hM184) (RowsAt.Ext X183 hr).log (SlAt.Ext X183 hs).log)
  have hT206 := nt_ext E202 hT186
  have hT207 := nt_ext E202 hT187
  have hT208 := nt_ext E202 hT188
  have g209 := E202.old g189
  have g210 := E202.old g190
  have g211 := E202.old g181
  have g212 := E202.old g191
  have g213 := E202.old g192
  have g214 := E202.old g193
  have g215 := E202.old g194
  obtain ⟨y195t, y195S, y195q⟩ := Q204
  obtain ⟨y195k, y195s, y195lo, y195hi, y195l, y195a, y195c, y195r, y195e, y195v, _, _, _⟩ := y195q.five
  subst y195v
  have y195T : NodeAt 5 (hidx [(0, M179.next)] M198) y195t _ := NodeAt.ext (M := hid M179.next _) (fun _ _ h => hid_same G205 h) _ _ y195q
  have X216 := X183.trans E202
  obtain ⟨b217, M218, eb219, em220, g221, E222, hM223⟩ := new_t hM203 ⟨[i64 y195k, i64 y195s, i64 y195lo, i64 y195hi, (.slice y195a y195l.length y195c)], 27, 5, 0, true⟩
  have nb217 := nb_of eb219 X216
  have dbab217 := ne_new g209 eb219
  have dbbb217 := ne_new g210 eb219
  have dbcb217 := ne_new g211 eb219
  have db26b217 := ne_new g212 eb219
  have db81b217 := ne_new g213 eb219
  have db145b217 := ne_new g214 eb219
  have db162b217 := ne_new g215 eb219
  have hT224 := nt_new eb219 E222 hT206
  have hT225 := nt_new eb219 E222 hT207
  have hT226 := nt_new eb219 E222 hT208
  have hT227 := nt_new eb219 E222 y195T
  have g228 := E222.old g209
  have g229 := E222.old g210
  have g230 := E222.old g211
  have g231 := E222.old g212
  have g232 := E222.old g213
  have g233 := E222.old g214
  have g234 := E222.old g215
  have X235 := X216.trans E222
  obtain ⟨b236, M237, eb238, em239, g240, X243, hM241, kp242⟩ := grow_t X235 nb162 hM223 ⟨[i64 y11k, i64 y11s, i64 y11lo, i64 y11hi, (.slice y11a y11l.length y11c), i64 y63k, i64 y63s, i64 y63lo, i64 y63hi, (.slice y63a y63l.length y63c), i64 y125k, i64 y125s, i64 y125lo, i64 y125hi, (.slice y125a y125l.length y125c), i64 y195k, i64 y195s, i64 y195lo, i64 y195hi, (.slice y195a y195l.length y195c)], 27, 5, 0, true⟩
  have nb236 := nb_of eb238 X235
  have dbab236 := ne_new g228 eb238
  have dbbb236 := ne_new g229 eb238
  have dbcb236 := ne_new g230 eb238
  have db26b236 := ne_new g231 eb238
  have db81b236 := ne_new g232 eb238
  have db145b236 := ne_new g233 eb238
  have db162b236 := ne_new g234 eb238
  have db217b236 := ne_new g221 eb238
  have hT244 := nt_grow b162 kp242 eb238 (by intro id hh; simp only [hidden_cons, hidden_none, or_false] at hh; omega) hT224
  have hT245 := nt_grow b162 kp242 eb238 (by intro id hh; simp only [hidden_cons, hidden_none, or_false] at hh; omega) hT225
  have hT246 := nt_grow b162 kp242 eb238 (by intro id hh; simp only [hidden_cons, hidden_none, or_false] at hh; omega) hT226
  have hT247 := nt_grow b162 kp242 eb238 (by intro id hh; simp only [hidden_cons, hidden_none, or_false] at hh; omega) hT227
  have g248 := (kp242 _ dbab162 (Mem.lt_of_get g228)).trans g228
  have g249 := (kp242 _ dbbb162 (Mem.lt_of_get g229)).trans g229
  have g250 := (kp242 _ dbcb162 (Mem.lt_of_get g230)).trans g230
  have g251 := (kp242 _ db26b162 (Mem.lt_of_get g231)).trans g231
  have g252 := (kp242 _ db81b162 (Mem.lt_of_get g232)).trans g232
  have g253 := (kp242 _ db145b162 (Mem.lt_of_get g233)).trans g233
  have g254 := (kp242 _ (Ne.symm db162b217) (Mem.lt_of_get g221)).trans g221
  obtain ⟨M255, q256, g257, kp258, X259, hM260, nx261⟩ := store_t (o := 4) (v := (sli b236 0 4 4)) (new := [i64 4, i64 0, i64 0, i64 0, (sli b236 0 4 4)]) X243 nbc hM241 dS25 g250 rfl rfl (Nat.zero_le _) (Nat.le_of_ble_eq_true rfl) rfl
  replace g257 : M255.get bc = some ⟨[i64 4, i64 0, i64 0, i64 0, (sli b236 0 4 4)], 27, 5, 0, true⟩ := g257
  have hT262 := nt_keep bc kp258 (by intro id hh; simp only [hidden_cons, hidden_none, or_false] at hh; omega) hT244
  have hT263 := nt_keep bc kp258 (by intro id hh; simp only [hidden_cons, hidden_none, or_false] at hh; omega) hT245
  have hT264 := nt_keep bc kp258 (by intro id hh; simp only [hidden_cons, hidden_none, or_false] at hh; omega) hT246
  have hT265 := nt_keep bc kp258 (by intro id hh; simp only [hidden_cons, hidden_none, or_false] at hh; omega) hT247
  have g266 := (kp258 _ dbabc).trans g248
  have g267 := (kp258 _ dbbbc).trans g249
  have g268 := (kp258 _ (Ne.symm dbcb26)).trans g251
  have g269 := (kp258 _ (Ne.symm dbcb81)).trans g252
  have g270 := (kp258 _ (Ne.symm dbcb145)).trans g253
  have g271 := (kp258 _ (Ne.symm dbcb217)).trans g254
  have g272 := (kp258 _ (Ne.symm dbcb236)).trans g240
  have hraw := mk1_1_raw k n ba bb bc a c l Ms y11k y11s y11lo y11hi y11a y11l y11c M14 b26 M27 b38 M39 M51 y63k y63s y63lo y63hi y63a y63l y63c M66 b81 M82 b96 M97 M111 y125k y125s y125lo y125hi y125a y125l y125c M128 b145 M146 b162 M163 M179 y195k y195s y195lo y195hi y195a y195l y195c M198 b217 M218 b236 M237 M255
  have rw0 : Mem.mk Ms.blks Ms.next (hides 0 [⟨1, 1, Ms.next, Ms.next⟩, ⟨0, 0, Ms.next, Ms.next⟩] ++ Ms.hide) Ms.log = Ms := by rw [show hides 0 [⟨1, 1, Ms.next, Ms.next⟩, ⟨0, 0, Ms.next, Ms.next⟩] = [] from by simp [hides, Nat.beq_refl, show Nat.beq 1 0 = false from rfl]]; rfl
  have rw1 : Mem.mk Ms.blks Ms.next (hides 0 [⟨2, 1, Ms.next, Ms.next⟩, ⟨1, 1, Ms.next, Ms.next⟩, ⟨0, 0, Ms.next, Ms.next⟩] ++ Ms.hide) Ms.log = Ms := by rw [show hides 0 [⟨2, 1, Ms.next, Ms.next⟩, ⟨1, 1, Ms.next, Ms.next⟩, ⟨0, 0, Ms.next, Ms.next⟩] = [] from by simp [hides, Nat.beq_refl, show Nat.beq 1 0 = false from rfl]]; rfl
  have rw2 : Mem.mk Ms.blks Ms.next (hides 12 [⟨3, 0, Ms.next, Ms.next⟩, ⟨2, 1, Ms.next, Ms.next⟩, ⟨1, 1, Ms.next, Ms.next⟩, ⟨0, 0, Ms.next, Ms.next⟩] ++ Ms.hide) Ms.log = Ms := by rw [show hides 12 [⟨3, 0, Ms.next, Ms.next⟩, ⟨2, 1, Ms.next, Ms.next⟩, ⟨1, 1, Ms.next, Ms.next⟩, ⟨0, 0, Ms.next, Ms.next⟩] = [] from by simp [hides, Nat.beq_refl, show Nat.beq 1 0 = false from rfl, show Nat.testBit 12 2 = true from rfl]]; rfl
  have rw3 := mk_eq (X0) (X25)
  have rw4 := mk_hides (d := 28) (l := [⟨4, 1, Ms.next, M14.next⟩, ⟨3, 0, Ms.next, Ms.next⟩, ⟨2, 1, Ms.next, Ms.next⟩, ⟨1, 1, Ms.next, Ms.next⟩, ⟨0, 0, Ms.next, Ms.next⟩]) (by simp [hides, Nat.beq_refl, show Nat.beq 1 0 = false from rfl, show Nat.testBit 28 2 = true from rfl, show Nat.testBit 28 4 = true from rfl]) (X0) (X25)
  have rw5 := mk_eq (X0) (X37)
  have rw6 := mk_eq (X0) (X50)
  have rw7 := mk_eq (X0) (X55)
  have rw8 := mk_hides (d := 0) (l := [⟨1, 1, M51.next, M51.next⟩, ⟨0, 0, M51.next, M51.next⟩]) (by simp [hides, Nat.beq_refl, show Nat.beq 1 0 = false from rfl]) (X0) (X55)
  have rw9 := mk_hides (d := 0) (l := [⟨2, 1, M51.next, M51.next⟩, ⟨1, 1, M51.next, M51.next⟩, ⟨0, 0, M51.next, M51.next⟩]) (by simp [hides, Nat.beq_refl, show Nat.beq 1 0 = false from rfl]) (X0) (X55)
  have rw10 := mk_hides (d := 12) (l := [⟨3, 0, M51.next, M51.next⟩, ⟨2, 1, M51.next, M51.next⟩, ⟨1, 1, M51.next, M51.next⟩, ⟨0, 0, M51.next, M51.next⟩]) (by simp [hides, Nat.beq_refl, show Nat.beq 1 0 = false from rfl, show Nat.testBit 12 2 = true from rfl]) (X0) (X55)
  have rw11 := mk_eq (X0) (X80)
  have rw12 := mk_hides (d := 28) (l := [⟨4, 1, M51.next, M66.next⟩, ⟨3, 0, M51.next, M51.next⟩, ⟨2, 1, M51.next, M51.next⟩, ⟨1, 1, M51.next, M51.next⟩, ⟨0, 0, M51.next, M51.next⟩]) (by simp [hides, Nat.beq_refl, show Nat.beq 1 0 = false from rfl, show Nat.testBit 28 2 = true from rfl, show Nat.testBit 28 4 = true from rfl]) (X0) (X80)
  have rw13 := mk_eq (X0) (X95)
  have rw14 := mk_eq (X0) (X103)
  have rw15 := mk_eq (X0) (X115)
  have rw16 := mk_hides (d := 0) (l := [⟨1, 1, M111.next, M111.next⟩, ⟨0, 0, M111.next, M111.next⟩]) (by simp [hides, Nat.beq_refl, show Nat.beq 1 0 = false from rfl]) (X0) (X115)
  have rw17 := mk_hides (d := 0) (l := [⟨2, 1, M111.next, M111.next⟩, ⟨1, 1, M111.next, M111.next⟩, ⟨0, 0, M111.next, M111.next⟩]) (by simp [hides, Nat.beq_refl, show Nat.beq 1 0 = false from rfl]) (X0) (X115)
  have rw18 := mk_hides (d := 12) (l := [⟨3, 0, M111.next, M111.next⟩, ⟨2, 1, M111.next, M111.next⟩, ⟨1, 1, M111.next, M111.next⟩, ⟨0, 0, M111.next, M111.next⟩]) (by simp [hides, Nat.beq_refl, show Nat.beq 1 0 = false from rfl, show Nat.testBit 12 2 = true from rfl]) (X0) (X115)
  have rw19 := mk_eq (X0) (X144)
  have rw20 := mk_hides (d := 28) (l := [⟨4, 1, M111.next, M128.next⟩, ⟨3, 0, M111.next, M111.next⟩, ⟨2, 1, M111.next, M111.next⟩, ⟨1, 1, M111.next, M111.next⟩, ⟨0, 0, M111.next, M111.next⟩]) (by simp [hides, Nat.beq_refl, show Nat.beq 1 0 = false from rfl, show Nat.testBit 28 2 = true from rfl, show Nat.testBit 28 4 = true from rfl]) (X0) (X144)
  have rw21 := mk_eq (X0) (X161)
  have rw22 := mk_eq (X0) (X169)
  have rw23 := mk_eq (X0) (X183)
  have rw24 := mk_hides (d := 0) (l := [⟨1, 1, M179.next, M179.next⟩, ⟨0, 0, M179.next, M179.next⟩]) (by simp [hides, Nat.beq_refl, show Nat.beq 1 0 = false from rfl]) (X0) (X183)
  have rw25 := mk_hides (d := 0) (l := [⟨2, 1, M179.next, M179.next⟩, ⟨1, 1, M179.next, M179.next⟩, ⟨0, 0, M179.next, M179.next⟩]) (by simp [hides, Nat.beq_refl, show Nat.beq 1 0 = false from rfl]) (X0) (X183)
  have rw26 := mk_hides (d := 12) (l := [⟨3, 0, M179.next, M179.next⟩, ⟨2, 1, M179.next, M179.next⟩, ⟨1, 1, M179.next, M179.next⟩, ⟨0, 0, M179.next, M179.next⟩]) (by simp [hides, Nat.beq_refl, show Nat.beq 1 0 = false from rfl, show Nat.testBit 12 2 = true from rfl]) (X0) (X183)
  have rw27 := mk_eq (X0) (X216)
  have rw28 := mk_hides (d := 28) (l := [⟨4, 1, M179.next, M198.next⟩, ⟨3, 0, M179.next, M179.next⟩, ⟨2, 1, M179.next, M179.next⟩, ⟨1, 1, M179.next, M179.next⟩, ⟨0, 0, M179.next, M179.next⟩]) (by simp [hides, Nat.beq_refl, show Nat.beq 1 0 = false from rfl, show Nat.testBit 28 2 = true from rfl, show Nat.testBit 28 4 = true from rfl]) (X0) (X216)
  have rw29 := mk_eq (X0) (X235)
  have rw30 := mk_eq (X0) (X243)
  have rw31 := mk_eq (X0) (X259)
  try rw [rw0] at hraw
  try rw [rw1] at hraw
  try rw [rw2] at hraw
  try rw [rw3] at hraw
  try rw [rw4] at hraw
  try rw [rw5] at hraw
  try rw [rw6] at hraw
  try rw [rw7] at hraw
  try rw [rw8] at hraw
  try rw [rw9] at hraw
  try rw [rw10] at hraw
  try rw [rw11] at hraw
  try rw [rw12] at hraw
  try rw [rw13] at hraw
  try rw [rw14] at hraw
  try rw [rw15] at hraw
  try rw [rw16] at hraw
  try rw [rw17] at hraw
  try rw [rw18] at hraw
  try rw [rw19] at hraw
  try rw [rw20] at hraw
  try rw [rw21] at hraw
  try rw [rw22] at hraw
  try rw [rw23] at hraw
  try rw [rw24] at hraw
  try rw [rw25] at hraw
  try rw [rw26] at hraw
  try rw [rw27] at hraw
  try rw [rw28] at hraw
  try rw [rw29] at hraw
  try rw [rw30] at hraw
  try rw [rw31] at hraw
  obtain ⟨T1, h1, h2⟩ := Rd.told noNumP mixedP (sK hS29b1_41) (fun _ _ => rfl) hraw (hk (lC dC25 gc rfl) (hk (lA ⟨dA54, dS54⟩ ga rfl) (hk (q_call rfl p15 l16 e17) (hk (q_eq (by rw [← eb28, ← em29]; kernel_rfl) Nat.one_ne_zero) (hk (q_app (by rw [← eb40, ← em41]; exact append_nil (w := 5) (by kernel_rfl) (by kernel_rfl) (y := 56) (by kernel_rfl) (by decide) (by decide) g30 rfl rfl rfl) Nat.one_ne_zero) (hk (q_st q52) (hk (lC dC25 g53 rfl) (hk (lA ⟨dA54, dS54⟩ g59 rfl) (hk (q_call rfl p67 l68 e69) (hk (q_eq (by rw [← eb83, ← em84]; kernel_rfl) Nat.one_ne_zero) (hk (q_app (by rw [← eb98, ← em99]; exact append_more (w := 5) (by kernel_rfl) (by kernel_rfl) (y := 56) (by kernel_rfl) (by decide) (by decide) (by decide) g85 rfl rfl rfl g94 rfl rfl rfl rfl rfl) (Nat.succ_ne_zero _)) (hk (q_st q112) (hk (lC dC22 g120 rfl) (hk (lN hs.ln) (hk (bT cc0) (hk (bT cc0) (hk (bT cc0) (hk (lC dC25 g113 rfl) (hk (lA ⟨dA54, dS54⟩ g120 rfl) (hk (q_call rfl p129 l130 e131) (hk (q_eq (by rw [← eb147, ← em148]; kernel_rfl) Nat.one_ne_zero) (hk (q_app (by rw [← eb164, ← em165]; exact append_more (w := 5) (by kernel_rfl) (by kernel_rfl) (y := 56) (by kernel_rfl) (by decide) (by decide) (by decide) g149 rfl rfl rfl g160 rfl rfl rfl rfl rfl) (Nat.succ_ne_zero _)) (hk (q_st q180) (hk (lC dC22 g189 rfl) (hk (lN hs.ln) (hk (bT cc1) (hk (bT cc1) (hk (bT cc1) (hk (lC dC25 g181 rfl) (hk (lA ⟨dA54, dS54⟩ g189 rfl) (hk (q_call rfl p199 l200 e201) (hk (q_eq (by rw [← eb219, ← em220]; kernel_rfl) Nat.one_ne_zero) (hk (q_app (by rw [← eb238, ← em239]; exact append_more (w := 5) (by kernel_rfl) (by kernel_rfl) (y := 56) (by kernel_rfl) (by decide) (by decide) (by decide) g221 rfl rfl rfl g234 rfl rfl rfl rfl rfl) (Nat.succ_ne_zero _)) (hk (q_st q256) (hk (lC dC22 g266 rfl) (hk (lN hs.ln) (hk (bF cc2) (hk (bF cc2) (hk (bF cc2) hn)))))))))))))))))))))))))))))))))))))))
  exact ⟨T1, M255, (some ⟨b236, 0, none⟩), [y11t, y63t, y125t, y195t], 4, h1, h2, X259, hM260, g267, g257, NodeAt.mk5 (M := hidx [(bb, bb + 1), (0, M.next)] M255) (l := [y11t, y63t, y125t, y195t]) (rows := [[i64 y11k, i64 y11s, i64 y11lo, i64 y11hi, (.slice y11a y11l.length y11c)], [i64 y63k, i64 y63s, i64 y63lo, i64 y63hi, (.slice y63a y63l.length y63c)], [i64 y125k, i64 y125s, i64 y125lo, i64 y125hi, (.slice y125a y125l.length y125c)], [i64 y195k, i64 y195s, i64 y195lo, i64 y195hi, (.slice y195a y195l.length y195c)]]) 4 0 0 0 (hidx_get.2 ⟨by simp only [hidden_cons, hidden_none, or_false]; omega, g272⟩) rfl rfl (RowsAt.cons (NodeAt.ext (M := hidx [(b236, b236 + 1), (b217, b217 + 1), (b162, b162 + 1), (b145, b145 + 1), (b96, b96 + 1), (b81, b81 + 1), (b38, b38 + 1), (b26, b26 + 1), (0, Ms.next)] M255) (M' := hidx [(bb, bb + 1), (0, M.next)] M255) (fun _ _ h => hidx_mono (H := [(b236, b236 + 1), (b217, b217 + 1), (b162, b162 + 1), (b145, b145 + 1), (b96, b96 + 1), (b81, b81 + 1), (b38, b38 + 1), (b26, b26 + 1), (0, Ms.next)]) (H' := [(bb, bb + 1), (0, M.next)]) (fun id hh => by have := (X0).next; simp only [hidden_cons, hidden_none, or_false] at hh ⊢; omega) h) _ _ hT262) (RowsAt.cons (NodeAt.ext (M := hidx [(b236, b236 + 1), (b217, b217 + 1), (b162, b162 + 1), (b145, b145 + 1), (b96, b96 + 1), (b81, b81 + 1), (0, M51.next)] M255) (M' := hidx [(bb, bb + 1), (0, M.next)] M255) (fun _ _ h => hidx_mono (H := [(b236, b236 + 1), (b217, b217 + 1), (b162, b162 + 1), (b145, b145 + 1), (b96, b96 + 1), (b81, b81 + 1), (0, M51.next)]) (H' := [(bb, bb + 1), (0, M.next)]) (fun id hh => by have := (X55).next; simp only [hidden_cons, hidden_none, or_false] at hh ⊢; omega) h) _ _ hT263) (RowsAt.cons (NodeAt.ext (M := hidx [(b236, b236 + 1), (b217, b217 + 1), (b162, b162 + 1), (b145, b145 + 1), (0, M111.next)] M255) (M' := hidx [(bb, bb + 1), (0, M.next)] M255) (fun _ _ h => hidx_mono (H := [(b236, b236 + 1), (b217, b217 + 1), (b162, b162 + 1), (b145, b145 + 1), (0, M111.next)]) (H' := [(bb, bb + 1), (0, M.next)]) (fun id hh => by have := (X115).next; simp only [hidden_cons, hidden_none, or_false] at hh ⊢; omega) h) _ _ hT264) (RowsAt.one (NodeAt.ext (M := hidx [(b236, b236 + 1), (b217, b217 + 1), (0, M179.next)] M255) (M' := hidx [(bb, bb + 1), (0, M.next)] M255) (fun _ _ h => hidx_mono (H := [(b236, b236 + 1), (b217, b217 + 1), (0, M179.next)]) (H' := [(bb, bb + 1), (0, M.next)]) (fun id hh => by have := (X183).next; simp only [hidden_cons, hidden_none, or_false] at hh ⊢; omega) h) _ _ hT265))))) (by simp), (by first | assumption | exact Small.mk (by simp) (by repeat' first | exact Small.n0 | assumption | refine Small.c ?_ ?_))⟩
theorem mk1_2_raw (k n : Int) (ba bb bc : Nat) (a : Option Addr) (c : Nat) (l : List DT) (Ms : Mem) (y11k y11s y11lo y11hi : Int) (y11a : Option Addr) (y11l : List DT) (y11c : Nat) (M14 : Mem) (b26 : Nat) (M27 : Mem) (b38 : Nat) (M39 M51 : Mem) (y63k y63s y63lo y63hi : Int) (y63a : Option Addr) (y63l : List DT) (y63c : Nat) (M66 : Mem) (b81 : Nat) (M82 : Mem) (b96 : Nat) (M97 M111 : Mem) (y125k y125s y125lo y125hi : Int) (y125a : Option Addr) (y125l : List DT) (y125c : Nat) (M128 : Mem) (b145 : Nat) (M146 : Mem) (b162 : Nat) (M163 M179 : Mem) : oR Tryd.prog [] 90 Tryd.f29 (.block 1 (.loop (q29.loopAt 1))) [(1, (pt ba 0)), (2, (pt bb 0)), (3, (pt bc 0)), (4, (i64 0))] Ms [ttL 30 sln, ttL 32 (nd3 k n (.slice a l.length c)), ttV 36 (nd5 y11k y11s y11lo y11hi (.slice y11a y11l.length y11c)) M14, ttV 38 (sli b26 0 1 2) M27, .at 40 (1, .val (sli b38 0 1 1), M39), ttS 44 M51, ttL 81 (sli b38 0 1 1), ttL 83 (nd3 k n (.slice a l.length c)), ttV 87 (nd5 y63k y63s y63lo y63hi (.slice y63a y63l.length y63c)) M66, ttV 89 (sli b81 0 1 2) M82, .at 91 (2, .val (sli b96 0 2 2), M97), ttS 95 M111, ttL 113 (.slice a l.length c), ttT 115, ttT 120, ttT 122, ttT 125, ttL 132 (sli b96 0 2 2), ttL 134 (nd3 k n (.slice a l.length c)), ttV 138 (nd5 y125k y125s y125lo y125hi (.slice y125a y125l.length y125c)) M128, ttV 140 (sli b145 0 1 2) M146, .at 142 (2, .val (sli b162 0 3 3), M163), ttS 146 M179, ttL 164 (.slice a l.length c), ttT 166, ttF 171, ttF 173, ttF 176] [2, 3] = some (.normal, [some (pt bb 0), some (pt bc 0)], (Mem.mk M179.blks M179.next Ms.hide M179.log), [qL 25 bc 4 Ms sln, qL 54 ba 0 (Mem.mk Ms.blks Ms.next (hides 0 [⟨1, 1, Ms.next, Ms.next⟩, ⟨0, 0, Ms.next, Ms.next⟩] ++ Ms.hide) Ms.log) (nd3 k n (.slice a l.length c)), qC 41 [(nd3 k n (.slice a l.length c)), i64 0] (Mem.mk Ms.blks Ms.next (hides 12 [⟨3, 0, Ms.next, Ms.next⟩, ⟨2, 1, Ms.next, Ms.next⟩, ⟨1, 1, Ms.next, Ms.next⟩, ⟨0, 0, Ms.next, Ms.next⟩] ++ Ms.hide) Ms.log) (nd5 y11k y11s y11lo y11hi (.slice y11a y11l.length y11c)) M14, .eq (abuildSlice Tryd.prog 25 1 [(0, (nd5 y11k y11s y11lo y11hi (.slice y11a y11l.length y11c)))] (Mem.mk M14.blks M14.next (hides 28 [⟨4, 1, Ms.next, M14.next⟩, ⟨3, 0, Ms.next, Ms.next⟩, ⟨2, 1, Ms.next, Ms.next⟩, ⟨1, 1, Ms.next, Ms.next⟩, ⟨0, 0, Ms.next, Ms.next⟩] ++ Ms.hide) M14.log)) (1, .val (sli b26 0 1 2), M27), .q (.append [25, 25] sln (sli b26 0 1 2) (Mem.mk M27.blks M27.next Ms.hide M27.log)) (1, .val (sli b38 0 1 1), M39), qS 25 bc 4 (sli b38 0 1 1) (Mem.mk M39.blks M39.next Ms.hide M39.log) M51, qL 25 bc 4 (Mem.mk M51.blks M51.next Ms.hide M51.log) (sli b38 0 1 1), qL 54 ba 0 (Mem.mk M51.blks M51.next (hides 0 [⟨1, 1, M51.next, M51.next⟩, ⟨0, 0, M51.next, M51.next⟩] ++ Ms.hide) M51.log) (nd3 k n (.slice a l.length c)), qC 41 [(nd3 k n (.slice a l.length c)), i64 1] (Mem.mk M51.blks M51.next (hides 12 [⟨3, 0, M51.next, M51.next⟩, ⟨2, 1, M51.next, M51.next⟩, ⟨1, 1, M51.next, M51.next⟩, ⟨0, 0, M51.next, M51.next⟩] ++ Ms.hide) M51.log) (nd5 y63k y63s y63lo y63hi (.slice y63a y63l.length y63c)) M66, .eq (abuildSlice Tryd.prog 25 1 [(0, (nd5 y63k y63s y63lo y63hi (.slice y63a y63l.length y63c)))] (Mem.mk M66.blks M66.next (hides 28 [⟨4, 1, M51.next, M66.next⟩, ⟨3, 0, M51.next, M51.next⟩, ⟨2, 1, M51.next, M51.next⟩, ⟨1, 1, M51.next, M51.next⟩, ⟨0, 0, M51.next, M51.next⟩] ++ Ms.hide) M66.log)) (1, .val (sli b81 0 1 2), M82), .q (.append [25, 25] (sli b38 0 1 1) (sli b81 0 1 2) (Mem.mk M82.blks M82.next Ms.hide M82.log)) (2, .val (sli b96 0 2 2), M97), qS 25 bc 4 (sli b96 0 2 2) (Mem.mk M97.blks M97.next Ms.hide M97.log) M111, qL 22 ba 2 (Mem.mk M111.blks M111.next Ms.hide M111.log) (.slice a l.length c), .ln a l.length c, qT (decide ((2 : Int) < (((l.length : Nat) : Int)))), qT (decide ((2 : Int) < (((l.length : Nat) : Int)))), qT (decide ((2 : Int) < (((l.length : Nat) : Int)))), qL 25 bc 4 (Mem.mk M111.blks M111.next Ms.hide M111.log) (sli b96 0 2 2), qL 54 ba 0 (Mem.mk M111.blks M111.next (hides 0 [⟨1, 1, M111.next, M111.next⟩, ⟨0, 0, M111.next, M111.next⟩] ++ Ms.hide) M111.log) (nd3 k n (.slice a l.length c)), qC 41 [(nd3 k n (.slice a l.length c)), i64 2] (Mem.mk M111.blks M111.next (hides 12 [⟨3, 0, M111.next, M111.next⟩, ⟨2, 1, M111.next, M111.next⟩, ⟨1, 1, M111.next, M111.next⟩, ⟨0, 0, M111.next, M111.next⟩] ++ Ms.hide) M111.log) (nd5 y125k y125s y125lo y125hi (.slice y125a y125l.length y125c)) M128, .eq (abuildSlice Tryd.prog 25 1 [(0, (nd5 y125k y125s y125lo y125hi (.slice y125a y125l.length y125c)))] (Mem.mk M128.blks M128.next (hides 28 [⟨4, 1, M111.next, M128.next⟩, ⟨3, 0, M111.next, M111.next⟩, ⟨2, 1, M111.next, M111.next⟩, ⟨1, 1, M111.next, M111.next⟩, ⟨0, 0, M111.next, M111.next⟩] ++ Ms.hide) M128.log)) (1, .val (sli b145 0 1 2), M146), .q (.append [25, 25] (sli b96 0 2 2) (sli b145 0 1 2) (Mem.mk M146.blks M146.next Ms.hide M146.log)) (2, .val (sli b162 0 3 3), M163), qS 25 bc 4 (sli b162 0 3 3) (Mem.mk M163.blks M163.next Ms.hide M163.log) M179, qL 22 ba 2 (Mem.mk M179.blks M179.next Ms.hide M179.log) (.slice a l.length c), .ln a l.length c, qF (decide ((3 : Int) < (((l.length : Nat) : Int)))), qF (decide ((3 : Int) < (((l.length : Nat) : Int)))), qF (decide ((3 : Int) < (((l.length : Nat) : Int))))]) := by kernel_rfl
theorem mk1_2 (k n : Int) (ba bb bc : Nat) (a : Option Addr) (c : Nat) (l : List DT) {M Ms : Mem} {rows : List (List Value)} (ih : IH29 l) (hr : RowsAt 3 M l rows) (hs : SlAt M (.slice a l.length c) l.length rows) (X0 : Ext M Ms) (hM0 : MemOk Ms) (nba : M.next ≤ ba) (_ : M.next ≤ bb) (nbc : M.next ≤ bc) (_ : ba ≠ bb) (dbabc : ba ≠ bc) (dbbbc : bb ≠ bc) (ga : Ms.get ba = some ⟨[i64 k, i64 n, (.slice a l.length c)], 54, 3, 0, true⟩) (gb : Ms.get bb = some ⟨[i64 0, i64 0, i64 0, i64 0, sln], 27, 5, 0, true⟩) (gc : Ms.get bc = some ⟨[i64 4, i64 0, i64 0, i64 0, sln], 27, 5, 0, true⟩) (cc0 : (decide ((2 : Int) < (((l.length : Nat) : Int)))) = true) (cc1 : (decide ((3 : Int) < (((l.length : Nat) : Int)))) = false) : mkR 1 3 4 4 k n (.slice a l.length c) ba bb bc M Ms := by
  have ltbaMs := Mem.lt_of_get ga
  have ltbbMs := Mem.lt_of_get gb
  have ltbcMs := Mem.lt_of_get gc
  obtain ⟨w12, N13, M14, p15, l16, e17, E18, hM19, Q20, G21⟩ := call_t hM0 (con41 (l := l) (rows := rows) ih 0 (MemOk.log hM0) (RowsAt.Ext X0 hr).log (SlAt.Ext X0 hs).log)
  have g22 := E18.old ga
  have g23 := E18.old gb
  have g24 := E18.old gc
  obtain ⟨y11t, y11S, y11q⟩ := Q20
  obtain ⟨y11k, y11s, y11lo, y11hi, y11l, y11a, y11c, y11r, y11e, y11v, _, _, _⟩ := y11q.five
  subst y11v
  have y11T : NodeAt 5 (hidx [(0, Ms.next)] M14) y11t _ := NodeAt.ext (M := hid Ms.next _) (fun _ _ h => hid_same G21 h) _ _ y11q
  have X25 := X0.trans E18
  obtain ⟨b26, M27, eb28, em29, g30, E31, hM32⟩ := new_t hM19 ⟨[i64 y11k, i64 y11s, i64 y11lo, i64 y11hi, (.slice y11a y11l.length y11c)], 27, 5, 0, true⟩
  have nb26 := nb_of eb28 X25
  have dbab26 := ne_new g22 eb28
  have dbbb26 := ne_new g23 eb28
  have dbcb26 := ne_new g24 eb28
  have hT33 := nt_new eb28 E31 y11T
  have g34 := E31.old g22
  have g35 := E31.old g23
  have g36 := E31.old g24
  have X37 := X25.trans E31
  obtain ⟨b38, M39, eb40, em41, g42, E44, hM43⟩ := new_t hM32 ⟨[i64 y11k, i64 y11s, i64 y11lo, i64 y11hi, (.slice y11a y11l.length y11c)], 27, 5, 0, true⟩
  have nb38 := nb_of eb40 X37
  have dbab38 := ne_new g34 eb40
  have dbbb38 := ne_new g35 eb40
  have dbcb38 := ne_new g36 eb40
  have db26b38 := ne_new g30 eb40
  have hT45 := nt_new eb40 E44 hT33
  have g46 := E44.old g34
  have g47 := E44.old g35
  have g48 := E44.old g36
  have g49 := E44.old g30
  have X50 := X37.trans E44
  obtain ⟨M51, q52, g53, kp54, X55, hM56, nx57⟩ := store_t (o := 4) (v := (sli b38 0 1 1)) (new := [i64 4, i64 0, i64 0, i64 0, (sli b38 0 1 1)]) X50 nbc hM43 dS25 g48 rfl rfl (Nat.zero_le _) (Nat.le_of_ble_eq_true rfl) rfl
  replace g53 : M51.get bc = some ⟨[i64 4, i64 0, i64 0, i64 0, (sli b38 0 1 1)], 27, 5, 0, true⟩ := g53
  have hT58 := nt_keep bc kp54 (by intro id hh; simp only [hidden_cons, hidden_none, or_false] at hh; omega) hT45
  have g59 := (kp54 _ dbabc).trans g46
  have g60 := (kp54 _ dbbbc).trans g47
  have g61 := (kp54 _ (Ne.symm dbcb26)).trans g49
  have g62 := (kp54 _ (Ne.symm dbcb38)).trans g42
  have ltbaM51 := Mem.lt_of_get g59
  have ltbbM51 := Mem.lt_of_get g60
  have ltbcM51 := Mem.lt_of_get g53
  have ltb26M51 := Mem.lt_of_get g61
  have ltb38M51 := Mem.lt_of_get g62
  obtain ⟨w64, N65, M66, p67, l68, e69, E70, hM71, Q72, G73⟩ := call_t hM56 (con41 (l := l) (rows := rows) ih 1 (MemOk.log hM56) (RowsAt.Ext X55 hr).log (SlAt.Ext X55 hs).log)
  have hT74 := nt_ext E70 hT58
  have g75 := E70.old g59
  have g76 := E70.old g60
  have g77 := E70.old g53
  have g78 := E70.old g61
  have g79 := E70.old g62
  obtain ⟨y63t, y63S, y63q⟩ := Q72
  obtain ⟨y63k, y63s, y63lo, y63hi, y63l, y63a, y63c, y63r, y63e, y63v, _, _, _⟩ := y63q.five
  subst y63v
  have y63T : NodeAt 5 (hidx [(0, M51.next)] M66) y63t _ := NodeAt.ext (M := hid M51.next _) (fun _ _ h => hid_same G73 h) _ _ y63q
  have X80 := X55.trans E70
  obtain ⟨b81, M82, eb83, em84, g85, E86, hM87⟩ := new_t hM71 ⟨[i64 y63k, i64 y63s, i64 y63lo, i64 y63hi, (.slice y63a y63l.length y63c)], 27, 5, 0, true⟩
  have nb81 := nb_of eb83 X80
  have dbab81 := ne_new g75 eb83
  have dbbb81 := ne_new g76 eb83
  have dbcb81 := ne_new g77 eb83
  have db26b81 := ne_new g78 eb83
  have db38b81 := ne_new g79 eb83
  have hT88 := nt_new eb83 E86 hT74
  have hT89 := nt_new eb83 E86 y63T
  have g90 := E86.old g75
  have g91 := E86.old g76
  have g92 := E86.old g77
  have g93 := E86.old g78
  have g94 := E86.old g79
  have X95 := X80.trans E86
  obtain ⟨b96, M97, eb98, em99, g100, X103, hM101, kp102⟩ := grow_t X95 nb38 hM87 ⟨[i64 y11k, i64 y11s, i64 y11lo, i64 y11hi, (.slice y11a y11l.length y11c), i64 y63k, i64 y63s, i64 y63lo, i64 y63hi, (.slice y63a y63l.length y63c)], 27, 5, 0, true⟩
  have nb96 := nb_of eb98 X95
  have dbab96 := ne_new g90 eb98
  have dbbb96 := ne_new g91 eb98
  have dbcb96 := ne_new g92 eb98
  have db26b96 := ne_new g93 eb98
  have db38b96 := ne_new g94 eb98
  have db81b96 := ne_new g85 eb98
  have hT104 := nt_grow b38 kp102 eb98 (by intro id hh; simp only [hidden_cons, hidden_none, or_false] at hh; omega) hT88
  have hT105 := nt_grow b38 kp102 eb98 (by intro id hh; simp only [hidden_cons, hidden_none, or_false] at hh; omega) hT89
  have g106 := (kp102 _ dbab38 (Mem.lt_of_get g90)).trans g90
  have g107 := (kp102 _ dbbb38 (Mem.lt_of_get g91)).trans g91
  have g108 := (kp102 _ dbcb38 (Mem.lt_of_get g92)).trans g92
  have g109 := (kp102 _ db26b38 (Mem.lt_of_get g93)).trans g93
  have g110 := (kp102 _ (Ne.symm db38b81) (Mem.lt_of_get g85)).trans g85
  obtain ⟨M111, q112, g113, kp114, X115, hM116, nx117⟩ := store_t (o := 4) (v := (sli b96 0 2 2)) (new := [i64 4, i64 0, i64 0, i64 0, (sli b96 0 2 2)]) X103 nbc hM101 dS25 g108 rfl rfl (Nat.zero_le _) (Nat.le_of_ble_eq_true rfl) rfl
  replace g113 : M111.get bc = some ⟨[i64 4, i64 0, i64 0, i64 0, (sli b96 0 2 2)], 27, 5, 0, true⟩ := g113
  have hT118 := nt_keep bc kp114 (by intro id hh; simp only [hidden_cons, hidden_none, or_false] at hh; omega) hT104
  have hT119 := nt_keep bc kp114 (by intro id hh; simp only [hidden_cons, hidden_none, or_false] at hh; omega) hT105
  have g120 := (kp114 _ dbabc).trans g106
  have g121 := (kp114 _ dbbbc).trans g107
  have g122 := (kp114 _ (Ne.symm dbcb26)).trans g109
  have g123 := (kp114 _ (Ne.symm dbcb81)).trans g110
  have g124 := (kp114 _ (Ne.symm dbcb96)).trans g100
  have ltbaM111 := Mem.lt_of_get g120
  have ltbbM111 := Mem.lt_of_get g121
  have ltbcM111 := Mem.lt_of_get g113
  have ltb26M111 := Mem.lt_of_get g122
  have ltb81M111 := Mem.lt_of_get g123
  have ltb96M111 := Mem.lt_of_get g124
  obtain ⟨w126, N127, M128, p129, l130, e131, E132, hM133, Q134, G135⟩ := call_t hM116 (con41 (l := l) (rows := rows) ih 2 (MemOk.log hM116) (RowsAt.Ext X115 hr).log (SlAt.Ext X115 hs).log)
  have hT136 := nt_ext E132 hT118
  have hT137 := nt_ext E132 hT119
  have g138 := E132.old g120
  have g139 := E132.old g121
  have g140 := E132.old g113
  have g141 := E132.old g122
  have g142 := E132.old g123
  have g143 := E132.old g124
  obtain ⟨y125t, y125S, y125q⟩ := Q134
  obtain ⟨y125k, y125s, y125lo, y125hi, y125l, y125a, y125c, y125r, y125e, y125v, _, _, _⟩ := y125q.five
  subst y125v
  have y125T : NodeAt 5 (hidx [(0, M111.next)] M128) y125t _ := NodeAt.ext (M := hid M111.next _) (fun _ _ h => hid_same G135 h) _ _ y125q
  have X144 := X115.trans E132
  obtain ⟨b145, M146, eb147, em148, g149, E150, hM151⟩ := new_t hM133 ⟨[i64 y125k, i64 y125s, i64 y125lo, i64 y125hi, (.slice y125a y125l.length y125c)], 27, 5, 0, true⟩
  have nb145 := nb_of eb147 X144
  have dbab145 := ne_new g138 eb147
  have dbbb145 := ne_new g139 eb147
  have dbcb145 := ne_new g140 eb147
  have db26b145 := ne_new g141 eb147
  have db81b145 := ne_new g142 eb147
  have db96b145 := ne_new g143 eb147
  have hT152 := nt_new eb147 E150 hT136
  have hT153 := nt_new eb147 E150 hT137
  have hT154 := nt_new eb147 E150 y125T
  have g155 := E150.old g138
  have g156 := E150.old g139
  have g157 := E150.old g140
  have g158 := E150.old g141
  have g159 := E150.old g142
  have g160 := E150.old g143
  have X161 := X144.trans E150
  obtain ⟨b162, M163, eb164, em165, g166, X169, hM167, kp168⟩ := grow_t X161 nb96 hM151 ⟨[i64 y11k, i64 y11s, i64 y11lo, i64 y11hi, (.slice y11a y11l.length y11c), i64 y63k, i64 y63s, i64 y63lo, i64 y63hi, (.slice y63a y63l.length y63c), i64 y125k, i64 y125s, i64 y125lo, i64 y125hi, (.slice y125a y125l.length y125c)], 27, 5, 0, true⟩
  have nb162 := nb_of eb164 X161
  have dbab162 := ne_new g155 eb164
  have dbbb162 := ne_new g156 eb164
  have dbcb162 := ne_new g157 eb164
  have db26b162 := ne_new g158 eb164
  have db81b162 := ne_new g159 eb164
  have db96b162 := ne_new g160 eb164
  have db145b162 := ne_new g149 eb164
  have hT170 := nt_grow b96 kp168 eb164 (by intro id hh; simp only [hidden_cons, hidden_none, or_false] at hh; omega) hT152
  have hT171 := nt_grow b96 kp168 eb164 (by intro id hh; simp only [hidden_cons, hidden_none, or_false] at hh; omega) hT153
  have hT172 := nt_grow b96 kp168 eb164 (by intro id hh; simp only [hidden_cons, hidden_none, or_false] at hh; omega) hT154
  have g173 := (kp168 _ dbab96 (Mem.lt_of_get g155)).trans g155
  have g174 := (kp168 _ dbbb96 (Mem.lt_of_get g156)).trans g156
  have g175 := (kp168 _ dbcb96 (Mem.lt_of_get g157)).trans g157
  have g176 := (kp168 _ db26b96 (Mem.lt_of_get g158)).trans g158
  have g177 := (kp168 _ db81b96 (Mem.lt_of_get g159)).trans g159
  have g178 := (kp168 _ (Ne.symm db96b145) (Mem.lt_of_get g149)).trans g149
  obtain ⟨M179, q180, g181, kp182, X183, hM184, nx185⟩ := store_t (o := 4) (v := (sli b162 0 3 3)) (new := [i64 4, i64 0, i64 0, i64 0, (sli b162 0 3 3)]) X169 nbc hM167 dS25 g175 rfl rfl (Nat.zero_le _) (Nat.le_of_ble_eq_true rfl) rfl
  replace g181 : M179.get bc = some ⟨[i64 4, i64 0, i64 0, i64 0, (sli b162 0 3 3)], 27, 5, 0, true⟩ := g181
  have hT186 := nt_keep bc kp182 (by intro id hh; simp only [hidden_cons, hidden_none, or_false] at hh; omega) hT170
  have hT187 := nt_keep bc kp182 (by intro id hh; simp only [hidden_cons, hidden_none, or_false] at hh; omega) hT171
  have hT188 := nt_keep bc kp182 (by intro id hh; simp only [hidden_cons, hidden_none, or_false] at hh; omega) hT172
  have g189 := (kp182 _ dbabc).trans g173
  have g190 := (kp182 _ dbbbc).trans g174
  have g191 := (kp182 _ (Ne.symm dbcb26)).trans g176
  have g192 := (kp182 _ (Ne.symm dbcb81)).trans g177
  have g193 := (kp182 _ (Ne.symm dbcb145)).trans g178
  have g194 := (kp182 _ (Ne.symm dbcb162)).trans g166
  have hraw := mk1_2_raw k n ba bb bc a c l Ms y11k y11s y11lo y11hi y11a y11l y11c M14 b26 M27 b38 M39 M51 y63k y63s y63lo y63hi y63a y63l y63c M66 b81 M82 b96 M97 M111 y125k y125s y125lo y125hi y125a y125l y125c M128 b145 M146 b162 M163 M179
  have rw0 : Mem.mk Ms.blks Ms.next (hides 0 [⟨1, 1, Ms.next, Ms.next⟩, ⟨0, 0, Ms.next, Ms.next⟩] ++ Ms.hide) Ms.log = Ms := by rw [show hides 0 [⟨1, 1, Ms.next, Ms.next⟩, ⟨0, 0, Ms.next, Ms.next⟩] = [] from by simp [hides, Nat.beq_refl, show Nat.beq 1 0 = false from rfl]]; rfl
  have rw1 : Mem.mk Ms.blks Ms.next (hides 0 [⟨2, 1, Ms.next, Ms.next⟩, ⟨1, 1, Ms.next, Ms.next⟩, ⟨0, 0, Ms.next, Ms.next⟩] ++ Ms.hide) Ms.log = Ms := by rw [show hides 0 [⟨2, 1, Ms.next, Ms.next⟩, ⟨1, 1, Ms.next, Ms.next⟩, ⟨0, 0, Ms.next, Ms.next⟩] = [] from by simp [hides, Nat.beq_refl, show Nat.beq 1 0 = false from rfl]]; rfl
  have rw2 : Mem.mk Ms.blks Ms.next (hides 12 [⟨3, 0, Ms.next, Ms.next⟩, ⟨2, 1, Ms.next, Ms.next⟩, ⟨1, 1, Ms.next, Ms.next⟩, ⟨0, 0, Ms.next, Ms.next⟩] ++ Ms.hide) Ms.log = Ms := by rw [show hides 12 [⟨3, 0, Ms.next, Ms.next⟩, ⟨2, 1, Ms.next, Ms.next⟩, ⟨1, 1, Ms.next, Ms.next⟩, ⟨0, 0, Ms.next, Ms.next⟩] = [] from by simp [hides, Nat.beq_refl, show Nat.beq 1 0 = false from rfl, show Nat.testBit 12 2 = true from rfl]]; rfl
  have rw3 := mk_eq (X0) (X25)
  have rw4 := mk_hides (d := 28) (l := [⟨4, 1, Ms.next, M14.next⟩, ⟨3, 0, Ms.next, Ms.next⟩, ⟨2, 1, Ms.next, Ms.next⟩, ⟨1, 1, Ms.next, Ms.next⟩, ⟨0, 0, Ms.next, Ms.next⟩]) (by simp [hides, Nat.beq_refl, show Nat.beq 1 0 = false from rfl, show Nat.testBit 28 2 = true from rfl, show Nat.testBit 28 4 = true from rfl]) (X0) (X25)
  have rw5 := mk_eq (X0) (X37)
  have rw6 := mk_eq (X0) (X50)
  have rw7 := mk_eq (X0) (X55)
  have rw8 := mk_hides (d := 0) (l := [⟨1, 1, M51.next, M51.next⟩, ⟨0, 0, M51.next, M51.next⟩]) (by simp [hides, Nat.beq_refl, show Nat.beq 1 0 = false from rfl]) (X0) (X55)
  have rw9 := mk_hides (d := 0) (l := [⟨2, 1, M51.next, M51.next⟩, ⟨1, 1, M51.next, M51.next⟩, ⟨0, 0, M51.next, M51.next⟩]) (by simp [hides, Nat.beq_refl, show Nat.beq 1 0 = false from rfl]) (X0) (X55)
  have rw10 := mk_hides (d := 12) (l := [⟨3, 0, M51.next, M51.next⟩, ⟨2, 1, M51.next, M51.next⟩, ⟨1, 1, M51.next, M51.next⟩, ⟨0, 0, M51.next, M51.next⟩]) (by simp [hides, Nat.beq_refl, show Nat.beq 1 0 = false from rfl, show Nat.testBit 12 2 = true from rfl]) (X0) (X55)
  have rw11 := mk_eq (X0) (X80)
  have rw12 := mk_hides (d := 28) (l := [⟨4, 1, M51.next, M66.next⟩, ⟨3, 0, M51.next, M51.next⟩, ⟨2, 1, M51.next, M51.next⟩, ⟨1, 1, M51.next, M51.next⟩, ⟨0, 0, M51.next, M51.next⟩]) (by simp [hides, Nat.beq_refl, show Nat.beq 1 0 = false from rfl, show Nat.testBit 28 2 = true from rfl, show Nat.testBit 28 4 = true from rfl]) (X0) (X80)
  have rw13 := mk_eq (X0) (X95)
  have rw14 := mk_eq (X0) (X103)
  have rw15 := mk_eq (X0) (X115)
  have rw16 := mk_hides (d := 0) (l := [⟨1, 1, M111.next, M111.next⟩, ⟨0, 0, M111.next, M111.next⟩]) (by simp [hides, Nat.beq_refl, show Nat.beq 1 0 = false from rfl]) (X0) (X115)
  have rw17 := mk_hides (d := 0) (l := [⟨2, 1, M111.next, M111.next⟩, ⟨1, 1, M111.next, M111.next⟩, ⟨0, 0, M111.next, M111.next⟩]) (by simp [hides, Nat.beq_refl, show Nat.beq 1 0 = false from rfl]) (X0) (X115)
  have rw18 := mk_hides (d := 12) (l := [⟨3, 0, M111.next, M111.next⟩, ⟨2, 1, M111.next, M111.next⟩, ⟨1, 1, M111.next, M111.next⟩, ⟨0, 0, M111.next, M111.next⟩]) (by simp [hides, Nat.beq_refl, show Nat.beq 1 0 = false from rfl, show Nat.testBit 12 2 = true from rfl]) (X0) (X115)
  have rw19 := mk_eq (X0) (X144)
  have rw20 := mk_hides (d := 28) (l := [⟨4, 1, M111.next, M128.next⟩, ⟨3, 0, M111.next, M111.next⟩, ⟨2, 1, M111.next, M111.next⟩, ⟨1, 1, M111.next, M111.next⟩, ⟨0, 0, M111.next, M111.next⟩]) (by simp [hides, Nat.beq_refl, show Nat.beq 1 0 = false from rfl, show Nat.testBit 28 2 = true from rfl, show Nat.testBit 28 4 = true from rfl]) (X0) (X144)
  have rw21 := mk_eq (X0) (X161)
  have rw22 := mk_eq (X0) (X169)
  have rw23 := mk_eq (X0) (X183)
  try rw [rw0] at hraw
  try rw [rw1] at hraw
  try rw [rw2] at hraw
  try rw [rw3] at hraw
  try rw [rw4] at hraw
  try rw [rw5] at hraw
  try rw [rw6] at hraw
  try rw [rw7] at hraw
  try rw [rw8] at hraw
  try rw [rw9] at hraw
  try rw [rw10] at hraw
  try rw [rw11] at hraw
  try rw [rw12] at hraw
  try rw [rw13] at hraw
  try rw [rw14] at hraw
  try rw [rw15] at hraw
  try rw [rw16] at hraw
  try rw [rw17] at hraw
  try rw [rw18] at hraw
  try rw [rw19] at hraw
  try rw [rw20] at hraw
  try rw [rw21] at hraw
  try rw [rw22] at hraw
  try rw [rw23] at hraw
  obtain ⟨T1, h1, h2⟩ := Rd.told noNumP mixedP (sK hS29b1_41) (fun _ _ => rfl) hraw (hk (lC dC25 gc rfl) (hk (lA ⟨dA54, dS54⟩ ga rfl) (hk (q_call rfl p15 l16 e17) (hk (q_eq (by rw [← eb28, ← em29]; kernel_rfl) Nat.one_ne_zero) (hk (q_app (by rw [← eb40, ← em41]; exact append_nil (w := 5) (by kernel_rfl) (by kernel_rfl) (y := 56) (by kernel_rfl) (by decide) (by decide) g30 rfl rfl rfl) Nat.one_ne_zero) (hk (q_st q52) (hk (lC dC25 g53 rfl) (hk (lA ⟨dA54, dS54⟩ g59 rfl) (hk (q_call rfl p67 l68 e69) (hk (q_eq (by rw [← eb83, ← em84]; kernel_rfl) Nat.one_ne_zero) (hk (q_app (by rw [← eb98, ← em99]; exact append_more (w := 5) (by kernel_rfl) (by kernel_rfl) (y := 56) (by kernel_rfl) (by decide) (by decide) (by decide) g85 rfl rfl rfl g94 rfl rfl rfl rfl rfl) (Nat.succ_ne_zero _)) (hk (q_st q112) (hk (lC dC22 g120 rfl) (hk (lN hs.ln) (hk (bT cc0) (hk (bT cc0) (hk (bT cc0) (hk (lC dC25 g113 rfl) (hk (lA ⟨dA54, dS54⟩ g120 rfl) (hk (q_call rfl p129 l130 e131) (hk (q_eq (by rw [← eb147, ← em148]; kernel_rfl) Nat.one_ne_zero) (hk (q_app (by rw [← eb164, ← em165]; exact append_more (w := 5) (by kernel_rfl) (by kernel_rfl) (y := 56) (by kernel_rfl) (by decide) (by decide) (by decide) g149 rfl rfl rfl g160 rfl rfl rfl rfl rfl) (Nat.succ_ne_zero _)) (hk (q_st q180) (hk (lC dC22 g189 rfl) (hk (lN hs.ln) (hk (bF cc1) (hk (bF cc1) (hk (bF cc1) hn))))))))))))))))))))))))))))
  exact ⟨T1, M179, (some ⟨b162, 0, none⟩), [y11t, y63t, y125t], 3, h1, h2, X183, hM184, g190, g181, NodeAt.mk5 (M := hidx [(bb, bb + 1), (0, M.next)] M179) (l := [y11t, y63t, y125t]) (rows := [[i64 y11k, i64 y11s, i64 y11lo, i64 y11hi, (.slice y11a y11l.length y11c)], [i64 y63k, i64 y63s, i64 y63lo, i64 y63hi, (.slice y63a y63l.length y63c)], [i64 y125k, i64 y125s, i64 y125lo, i64 y125hi, (.slice y125a y125l.length y125c)]]) 4 0 0 0 (hidx_get.2 ⟨by simp only [hidden_cons, hidden_none, or_false]; omega, g194⟩) rfl rfl (RowsAt.cons (NodeAt.ext (M := hidx [(b162, b162 + 1), (b145, b145 + 1), (b96, b96 + 1), (b81, b81 + 1), (b38, b38 + 1), (b26, b26 + 1), (0, Ms.next)] M179) (M' := hidx [(bb, bb + 1), (0, M.next)] M179) (fun _ _ h => hidx_mono (H := [(b162, b162 + 1), (b145, b145 + 1), (b96, b96 + 1), (b81, b81 + 1), (b38, b38 + 1), (b26, b26 + 1), (0, Ms.next)]) (H' := [(bb, bb + 1), (0, M.next)]) (fun id hh => by have := (X0).next; simp only [hidden_cons, hidden_none, or_false] at hh ⊢; omega) h) _ _ hT186) (RowsAt.cons (NodeAt.ext (M := hidx [(b162, b162 + 1), (b145, b145 + 1), (b96, b96 + 1), (b81, b81 + 1), (0, M51.next)] M179) (M' := hidx [(bb, bb + 1), (0, M.next)] M179) (fun _ _ h => hidx_mono (H := [(b162, b162 + 1), (b145, b145 + 1), (b96, b96 + 1), (b81, b81 + 1), (0, M51.next)]) (H' := [(bb, bb + 1), (0, M.next)]) (fun id hh => by have := (X55).next; simp only [hidden_cons, hidden_none, or_false] at hh ⊢; omega) h) _ _ hT187) (RowsAt.one (NodeAt.ext (M := hidx [(b162, b162 + 1), (b145, b145 + 1), (0, M111.next)] M179) (M' := hidx [(bb, bb + 1), (0, M.next)] M179) (fun _ _ h => hidx_mono (H := [(b162, b162 + 1), (b145, b145 + 1), (0, M111.next)]) (H' := [(bb, bb + 1), (0, M.next)]) (fun id hh => by have := (X115).next; simp only [hidden_cons, hidden_none, or_false] at hh ⊢; omega) h) _ _ hT188)))) (by simp), (by first | assumption | exact Small.mk (by simp) (by repeat' first | exact Small.n0 | assumption | refine Small.c ?_ ?_))⟩
theorem mk1_3_raw (k n : Int) (ba bb bc : Nat) (a : Option Addr) (c : Nat) (l : List DT) (Ms : Mem) (y11k y11s y11lo y11hi : Int) (y11a : Option Addr) (y11l : List DT) (y11c : Nat) (M14 : Mem) (b26 : Nat) (M27 : Mem) (b38 : Nat) (M39 M51 : Mem) (y63k y63s y63lo y63hi : Int) (y63a : Option Addr) (y63l : List DT) (y63c : Nat) (M66 : Mem) (b81 : Nat) (M82 : Mem) (b96 : Nat) (M97 M111 : Mem) : oR Tryd.prog [] 90 Tryd.f29 (.block 1 (.loop (q29.loopAt 1))) [(1, (pt ba 0)), (2, (pt bb 0)), (3, (pt bc 0)), (4, (i64 0))] Ms [ttL 30 sln, ttL 32 (nd3 k n (.slice a l.length c)), ttV 36 (nd5 y11k y11s y11lo y11hi (.slice y11a y11l.length y11c)) M14, ttV 38 (sli b26 0 1 2) M27, .at 40 (1, .val (sli b38 0 1 1), M39), ttS 44 M51, ttL 81 (sli b38 0 1 1), ttL 83 (nd3 k n (.slice a l.length c)), ttV 87 (nd5 y63k y63s y63lo y63hi (.slice y63a y63l.length y63c)) M66, ttV 89 (sli b81 0 1 2) M82, .at 91 (2, .val (sli b96 0 2 2), M97), ttS 95 M111, ttL 113 (.slice a l.length c), ttT 115, ttF 120, ttF 122, ttF 125] [2, 3] = some (.normal, [some (pt bb 0), some (pt bc 0)], (Mem.mk M111.blks M111.next Ms.hide M111.log), [qL 25 bc 4 Ms sln, qL 54 ba 0 (Mem.mk Ms.blks Ms.next (hides 0 [⟨1, 1, Ms.next, Ms.next⟩, ⟨0, 0, Ms.next, Ms.next⟩] ++ Ms.hide) Ms.log) (nd3 k n (.slice a l.length c)), qC 41 [(nd3 k n (.slice a l.length c)), i64 0] (Mem.mk Ms.blks Ms.next (hides 12 [⟨3, 0, Ms.next, Ms.next⟩, ⟨2, 1, Ms.next, Ms.next⟩, ⟨1, 1, Ms.next, Ms.next⟩, ⟨0, 0, Ms.next, Ms.next⟩] ++ Ms.hide) Ms.log) (nd5 y11k y11s y11lo y11hi (.slice y11a y11l.length y11c)) M14, .eq (abuildSlice Tryd.prog 25 1 [(0, (nd5 y11k y11s y11lo y11hi (.slice y11a y11l.length y11c)))] (Mem.mk M14.blks M14.next (hides 28 [⟨4, 1, Ms.next, M14.next⟩, ⟨3, 0, Ms.next, Ms.next⟩, ⟨2, 1, Ms.next, Ms.next⟩, ⟨1, 1, Ms.next, Ms.next⟩, ⟨0, 0, Ms.next, Ms.next⟩] ++ Ms.hide) M14.log)) (1, .val (sli b26 0 1 2), M27), .q (.append [25, 25] sln (sli b26 0 1 2) (Mem.mk M27.blks M27.next Ms.hide M27.log)) (1, .val (sli b38 0 1 1), M39), qS 25 bc 4 (sli b38 0 1 1) (Mem.mk M39.blks M39.next Ms.hide M39.log) M51, qL 25 bc 4 (Mem.mk M51.blks M51.next Ms.hide M51.log) (sli b38 0 1 1), qL 54 ba 0 (Mem.mk M51.blks M51.next (hides 0 [⟨1, 1, M51.next, M51.next⟩, ⟨0, 0, M51.next, M51.next⟩] ++ Ms.hide) M51.log) (nd3 k n (.slice a l.length c)), qC 41 [(nd3 k n (.slice a l.length c)), i64 1] (Mem.mk M51.blks M51.next (hides 12 [⟨3, 0, M51.next, M51.next⟩, ⟨2, 1, M51.next, M51.next⟩, ⟨1, 1, M51.next, M51.next⟩, ⟨0, 0, M51.next, M51.next⟩] ++ Ms.hide) M51.log) (nd5 y63k y63s y63lo y63hi (.slice y63a y63l.length y63c)) M66, .eq (abuildSlice Tryd.prog 25 1 [(0, (nd5 y63k y63s y63lo y63hi (.slice y63a y63l.length y63c)))] (Mem.mk M66.blks M66.next (hides 28 [⟨4, 1, M51.next, M66.next⟩, ⟨3, 0, M51.next, M51.next⟩, ⟨2, 1, M51.next, M51.next⟩, ⟨1, 1, M51.next, M51.next⟩, ⟨0, 0, M51.next, M51.next⟩] ++ Ms.hide) M66.log)) (1, .val (sli b81 0 1 2), M82), .q (.append [25, 25] (sli b38 0 1 1) (sli b81 0 1 2) (Mem.mk M82.blks M82.next Ms.hide M82.log)) (2, .val (sli b96 0 2 2), M97), qS 25 bc 4 (sli b96 0 2 2) (Mem.mk M97.blks M97.next Ms.hide M97.log) M111, qL 22 ba 2 (Mem.mk M111.blks M111.next Ms.hide M111.log) (.slice a l.length c), .ln a l.length c, qF (decide ((2 : Int) < (((l.length : Nat) : Int)))), qF (decide ((2 : Int) < (((l.length : Nat) : Int)))), qF (decide ((2 : Int) < (((l.length : Nat) : Int))))]) := by kernel_rfl
theorem mk1_3 (k n : Int) (ba bb bc : Nat) (a : Option Addr) (c : Nat) (l : List DT) {M Ms : Mem} {rows : List (List Value)} (ih : IH29 l) (hr : RowsAt 3 M l rows) (hs : SlAt M (.slice a l.length c) l.length rows) (X0 : Ext M Ms) (hM0 : MemOk Ms) (nba : M.next ≤ ba) (_ : M.next ≤ bb) (nbc : M.next ≤ bc) (_ : ba ≠ bb) (dbabc : ba ≠ bc) (dbbbc : bb ≠ bc) (ga : Ms.get ba = some ⟨[i64 k, i64 n, (.slice a l.length c)], 54, 3, 0, true⟩) (gb : Ms.get bb = some ⟨[i64 0, i64 0, i64 0, i64 0, sln], 27, 5, 0, true⟩) (gc : Ms.get bc = some ⟨[i64 4, i64 0, i64 0, i64 0, sln], 27, 5, 0, true⟩) (cc0 : (decide ((2 : Int) < (((l.length : Nat) : Int)))) = false) : mkR 1 3 4 4 k n (.slice a l.length c) ba bb bc M Ms := by
  have ltbaMs := Mem.lt_of_get ga
  have ltbbMs := Mem.lt_of_get gb
  have ltbcMs := Mem.lt_of_get gc
  obtain ⟨w12, N13, M14, p15, l16, e17, E18, hM19, Q20, G21⟩ := call_t hM0 (con41 (l := l) (rows := rows) ih 0 (MemOk.log hM0) (RowsAt.Ext X0 hr).log (SlAt.Ext X0 hs).log)
  have g22 := E18.old ga
  have g23 := E18.old gb
  have g24 := E18.old gc
  obtain ⟨y11t, y11S, y11q⟩ := Q20
  obtain ⟨y11k, y11s, y11lo, y11hi, y11l, y11a, y11c, y11r, y11e, y11v, _, _, _⟩ := y11q.five
  subst y11v
  have y11T : NodeAt 5 (hidx [(0, Ms.next)] M14) y11t _ := NodeAt.ext (M := hid Ms.next _) (fun _ _ h => hid_same G21 h) _ _ y11q
  have X25 := X0.trans E18
  obtain ⟨b26, M27, eb28, em29, g30, E31, hM32⟩ := new_t hM19 ⟨[i64 y11k, i64 y11s, i64 y11lo, i64 y11hi, (.slice y11a y11l.length y11c)], 27, 5, 0, true⟩
  have nb26 := nb_of eb28 X25
  have dbab26 := ne_new g22 eb28
  have dbbb26 := ne_new g23 eb28
  have dbcb26 := ne_new g24 eb28
  have hT33 := nt_new eb28 E31 y11T
  have g34 := E31.old g22
  have g35 := E31.old g23
  have g36 := E31.old g24
  have X37 := X25.trans E31
  obtain ⟨b38, M39, eb40, em41, g42, E44, hM43⟩ := new_t hM32 ⟨[i64 y11k, i64 y11s, i64 y11lo, i64 y11hi, (.slice y11a y11l.length y11c)], 27, 5, 0, true⟩
  have nb38 := nb_of eb40 X37
  have dbab38 := ne_new g34 eb40
  have dbbb38 := ne_new g35 eb40
  have dbcb38 := ne_new g36 eb40
  have db26b38 := ne_new g30 eb40
  have hT45 := nt_new eb40 E44 hT33
  have g46 := E44.old g34
  have g47 := E44.old g35
  have g48 := E44.old g36
  have g49 := E44.old g30
  have X50 := X37.trans E44
  obtain ⟨M51, q52, g53, kp54, X55, hM56, nx57⟩ := store_t (o := 4) (v := (sli b38 0 1 1)) (new := [i64 4, i64 0, i64 0, i64 0, (sli b38 0 1 1)]) X50 nbc hM43 dS25 g48 rfl rfl (Nat.zero_le _) (Nat.le_of_ble_eq_true rfl) rfl
  replace g53 : M51.get bc = some ⟨[i64 4, i64 0, i64 0, i64 0, (sli b38 0 1 1)], 27, 5, 0, true⟩ := g53
  have hT58 := nt_keep bc kp54 (by intro id hh; simp only [hidden_cons, hidden_none, or_false] at hh; omega) hT45
  have g59 := (kp54 _ dbabc).trans g46
  have g60 := (kp54 _ dbbbc).trans g47
  have g61 := (kp54 _ (Ne.symm dbcb26)).trans g49
  have g62 := (kp54 _ (Ne.symm dbcb38)).trans g42
  have ltbaM51 := Mem.lt_of_get g59
  have ltbbM51 := Mem.lt_of_get g60
  have ltbcM51 := Mem.lt_of_get g53
  have ltb26M51 := Mem.lt_of_get g61
  have ltb38M51 := Mem.lt_of_get g62
  obtain ⟨w64, N65, M66, p67, l68, e69, E70, hM71, Q72, G73⟩ := call_t hM56 (con41 (l := l) (rows := rows) ih 1 (MemOk.log hM56) (RowsAt.Ext X55 hr).log (SlAt.Ext X55 hs).log)
  have hT74 := nt_ext E70 hT58
  have g75 := E70.old g59
  have g76 := E70.old g60
  have g77 := E70.old g53
  have g78 := E70.old g61
  have g79 := E70.old g62
  obtain ⟨y63t, y63S, y63q⟩ := Q72
  obtain ⟨y63k, y63s, y63lo, y63hi, y63l, y63a, y63c, y63r, y63e, y63v, _, _, _⟩ := y63q.five
  subst y63v
  have y63T : NodeAt 5 (hidx [(0, M51.next)] M66) y63t _ := NodeAt.ext (M := hid M51.next _) (fun _ _ h => hid_same G73 h) _ _ y63q
  have X80 := X55.trans E70
  obtain ⟨b81, M82, eb83, em84, g85, E86, hM87⟩ := new_t hM71 ⟨[i64 y63k, i64 y63s, i64 y63lo, i64 y63hi, (.slice y63a y63l.length y63c)], 27, 5, 0, true⟩
  have nb81 := nb_of eb83 X80
  have dbab81 := ne_new g75 eb83
  have dbbb81 := ne_new g76 eb83
  have dbcb81 := ne_new g77 eb83
  have db26b81 := ne_new g78 eb83
  have db38b81 := ne_new g79 eb83
  have hT88 := nt_new eb83 E86 hT74
  have hT89 := nt_new eb83 E86 y63T
  have g90 := E86.old g75
  have g91 := E86.old g76
  have g92 := E86.old g77
  have g93 := E86.old g78
  have g94 := E86.old g79
  have X95 := X80.trans E86
  obtain ⟨b96, M97, eb98, em99, g100, X103, hM101, kp102⟩ := grow_t X95 nb38 hM87 ⟨[i64 y11k, i64 y11s, i64 y11lo, i64 y11hi, (.slice y11a y11l.length y11c), i64 y63k, i64 y63s, i64 y63lo, i64 y63hi, (.slice y63a y63l.length y63c)], 27, 5, 0, true⟩
  have nb96 := nb_of eb98 X95
  have dbab96 := ne_new g90 eb98
  have dbbb96 := ne_new g91 eb98
  have dbcb96 := ne_new g92 eb98
  have db26b96 := ne_new g93 eb98
  have db38b96 := ne_new g94 eb98
  have db81b96 := ne_new g85 eb98
  have hT104 := nt_grow b38 kp102 eb98 (by intro id hh; simp only [hidden_cons, hidden_none, or_false] at hh; omega) hT88
  have hT105 := nt_grow b38 kp102 eb98 (by intro id hh; simp only [hidden_cons, hidden_none, or_false] at hh; omega) hT89
  have g106 := (kp102 _ dbab38 (Mem.lt_of_get g90)).trans g90
  have g107 := (kp102 _ dbbb38 (Mem.lt_of_get g91)).trans g91
  have g108 := (kp102 _ dbcb38 (Mem.lt_of_get g92)).trans g92
  have g109 := (kp102 _ db26b38 (Mem.lt_of_get g93)).trans g93
  have g110 := (kp102 _ (Ne.symm db38b81) (Mem.lt_of_get g85)).trans g85
  obtain ⟨M111, q112, g113, kp114, X115, hM116, nx117⟩ := store_t (o := 4) (v := (sli b96 0 2 2)) (new := [i64 4, i64 0, i64 0, i64 0, (sli b96 0 2 2)]) X103 nbc hM101 dS25 g108 rfl rfl (Nat.zero_le _) (Nat.le_of_ble_eq_true rfl) rfl
  replace g113 : M111.get bc = some ⟨[i64 4, i64 0, i64 0, i64 0, (sli b96 0 2 2)], 27, 5, 0, true⟩ := g113
  have hT118 := nt_keep bc kp114 (by intro id hh; simp only [hidden_cons, hidden_none, or_false] at hh; omega) hT104
  have hT119 := nt_keep bc kp114 (by intro id hh; simp only [hidden_cons, hidden_none, or_false] at hh; omega) hT105
  have g120 := (kp114 _ dbabc).trans g106
  have g121 := (kp114 _ dbbbc).trans g107
  have g122 := (kp114 _ (Ne.symm dbcb26)).trans g109
  have g123 := (kp114 _ (Ne.symm dbcb81)).trans g110
  have g124 := (kp114 _ (Ne.symm dbcb96)).trans g100
  have hraw := mk1_3_raw k n ba bb bc a c l Ms y11k y11s y11lo y11hi y11a y11l y11c M14 b26 M27 b38 M39 M51 y63k y63s y63lo y63hi y63a y63l y63c M66 b81 M82 b96 M97 M111
  have rw0 : Mem.mk Ms.blks Ms.next (hides 0 [⟨1, 1, Ms.next, Ms.next⟩, ⟨0, 0, Ms.next, Ms.next⟩] ++ Ms.hide) Ms.log = Ms := by rw [show hides 0 [⟨1, 1, Ms.next, Ms.next⟩, ⟨0, 0, Ms.next, Ms.next⟩] = [] from by simp [hides, Nat.beq_refl, show Nat.beq 1 0 = false from rfl]]; rfl
  have rw1 : Mem.mk Ms.blks Ms.next (hides 0 [⟨2, 1, Ms.next, Ms.next⟩, ⟨1, 1, Ms.next, Ms.next⟩, ⟨0, 0, Ms.next, Ms.next⟩] ++ Ms.hide) Ms.log = Ms := by rw [show hides 0 [⟨2, 1, Ms.next, Ms.next⟩, ⟨1, 1, Ms.next, Ms.next⟩, ⟨0, 0, Ms.next, Ms.next⟩] = [] from by simp [hides, Nat.beq_refl, show Nat.beq 1 0 = false from rfl]]; rfl
  have rw2 : Mem.mk Ms.blks Ms.next (hides 12 [⟨3, 0, Ms.next, Ms.next⟩, ⟨2, 1, Ms.next, Ms.next⟩, ⟨1, 1, Ms.next, Ms.next⟩, ⟨0, 0, Ms.next, Ms.next⟩] ++ Ms.hide) Ms.log = Ms := by rw [show hides 12 [⟨3, 0, Ms.next, Ms.next⟩, ⟨2, 1, Ms.next, Ms.next⟩, ⟨1, 1, Ms.next, Ms.next⟩, ⟨0, 0, Ms.next, Ms.next⟩] = [] from by simp [hides, Nat.beq_refl, show Nat.beq 1 0 = false from rfl, show Nat.testBit 12 2 = true from rfl]]; rfl
  have rw3 := mk_eq (X0) (X25)
  have rw4 := mk_hides (d := 28) (l := [⟨4, 1, Ms.next, M14.next⟩, ⟨3, 0, Ms.next, Ms.next⟩, ⟨2, 1, Ms.next, Ms.next⟩, ⟨1, 1, Ms.next, Ms.next⟩, ⟨0, 0, Ms.next, Ms.next⟩]) (by simp [hides, Nat.beq_refl, show Nat.beq 1 0 = false from rfl, show Nat.testBit 28 2 = true from rfl, show Nat.testBit 28 4 = true from rfl]) (X0) (X25)
  have rw5 := mk_eq (X0) (X37)
  have rw6 := mk_eq (X0) (X50)
  have rw7 := mk_eq (X0) (X55)
  have rw8 := mk_hides (d := 0) (l := [⟨1, 1, M51.next, M51.next⟩, ⟨0, 0, M51.next, M51.next⟩]) (by simp [hides, Nat.beq_refl, show Nat.beq 1 0 = false from rfl]) (X0) (X55)
  have rw9 := mk_hides (d := 0) (l := [⟨2, 1, M51.next, M51.next⟩, ⟨1, 1, M51.next, M51.next⟩, ⟨0, 0, M51.next, M51.next⟩]) (by simp [hides, Nat.beq_refl, show Nat.beq 1 0 = false from rfl]) (X0) (X55)
  have rw10 := mk_hides (d := 12) (l := [⟨3, 0, M51.next, M51.next⟩, ⟨2, 1, M51.next, M51.next⟩, ⟨1, 1, M51.next, M51.next⟩, ⟨0, 0, M51.next, M51.next⟩]) (by simp [hides, Nat.beq_refl, show Nat.beq 1 0 = false from rfl, show Nat.testBit 12 2 = true from rfl]) (X0) (X55)
  have rw11 := mk_eq (X0) (X80)
  have rw12 := mk_hides (d := 28) (l := [⟨4, 1, M51.next, M66.next⟩, ⟨3, 0, M51.next, M51.next⟩, ⟨2, 1, M51.next, M51.next⟩, ⟨1, 1, M51.next, M51.next⟩, ⟨0, 0, M51.next, M51.next⟩]) (by simp [hides, Nat.beq_refl, show Nat.beq 1 0 = false from rfl, show Nat.testBit 28 2 = true from rfl, show Nat.testBit 28 4 = true from rfl]) (X0) (X80)
  have rw13 := mk_eq (X0) (X95)
  have rw14 := mk_eq (X0) (X103)
  have rw15 := mk_eq (X0) (X115)
  try rw [rw0] at hraw
  try rw [rw1] at hraw
  try rw [rw2] at hraw
  try rw [rw3] at hraw
  try rw [rw4] at hraw
  try rw [rw5] at hraw
  try rw [rw6] at hraw
  try rw [rw7] at hraw
  try rw [rw8] at hraw
  try rw [rw9] at hraw
  try rw [rw10] at hraw
  try rw [rw11] at hraw
  try rw [rw12] at hraw
  try rw [rw13] at hraw
  try rw [rw14] at hraw
  try rw [rw15] at hraw
  obtain ⟨T1, h1, h2⟩ := Rd.told noNumP mixedP (sK hS29b1_41) (fun _ _ => rfl) hraw (hk (lC dC25 gc rfl) (hk (lA ⟨dA54, dS54⟩ ga rfl) (hk (q_call rfl p15 l16 e17) (hk (q_eq (by rw [← eb28, ← em29]; kernel_rfl) Nat.one_ne_zero) (hk (q_app (by rw [← eb40, ← em41]; exact append_nil (w := 5) (by kernel_rfl) (by kernel_rfl) (y := 56) (by kernel_rfl) (by decide) (by decide) g30 rfl rfl rfl) Nat.one_ne_zero) (hk (q_st q52) (hk (lC dC25 g53 rfl) (hk (lA ⟨dA54, dS54⟩ g59 rfl) (hk (q_call rfl p67 l68 e69) (hk (q_eq (by rw [← eb83, ← em84]; kernel_rfl) Nat.one_ne_zero) (hk (q_app (by rw [← eb98, ← em99]; exact append_more (w := 5) (by kernel_rfl) (by kernel_rfl) (y := 56) (by kernel_rfl) (by decide) (by decide) (by decide) g85 rfl rfl rfl g94 rfl rfl rfl rfl rfl) (Nat.succ_ne_zero _)) (hk (q_st q112) (hk (lC dC22 g120 rfl) (hk (lN hs.ln) (hk (bF cc0) (hk (bF cc0) (hk (bF cc0) hn)))))))))))))))))
  exact ⟨T1, M111, (some ⟨b96, 0, none⟩), [y11t, y63t], 2, h1, h2, X115, hM116, g121, g113, NodeAt.mk5 (M := hidx [(bb, bb + 1), (0, M.next)] M111) (l := [y11t, y63t]) (rows := [[i64 y11k, i64 y11s, i64 y11lo, i64 y11hi, (.slice y11a y11l.length y11c)], [i64 y63k, i64 y63s, i64 y63lo, i64 y63hi, (.slice y63a y63l.length y63c)]]) 4 0 0 0 (hidx_get.2 ⟨by simp only [hidden_cons, hidden_none, or_false]; omega, g124⟩) rfl rfl (RowsAt.cons (NodeAt.ext (M := hidx [(b96, b96 + 1), (b81, b81 + 1), (b38, b38 + 1), (b26, b26 + 1), (0, Ms.next)] M111) (M' := hidx [(bb, bb + 1), (0, M.next)] M111) (fun _ _ h => hidx_mono (H := [(b96, b96 + 1), (b81, b81 + 1), (b38, b38 + 1), (b26, b26 + 1), (0, Ms.next)]) (H' := [(bb, bb + 1), (0, M.next)]) (fun id hh => by have := (X0).next; simp only [hidden_cons, hidden_none, or_false] at hh ⊢; omega) h) _ _ hT118) (RowsAt.one (NodeAt.ext (M := hidx [(b96, b96 + 1), (b81, b81 + 1), (0, M51.next)] M111) (M' := hidx [(bb, bb + 1), (0, M.next)] M111) (fun _ _ h => hidx_mono (H := [(b96, b96 + 1), (b81, b81 + 1), (0, M51.next)]) (H' := [(bb, bb + 1), (0, M.next)]) (fun id hh => by have := (X55).next; simp only [hidden_cons, hidden_none, or_false] at hh ⊢; omega) h) _ _ hT119))) (by simp), (by first | assumption | exact Small.mk (by simp) (by repeat' first | exact Small.n0 | assumption | refine Small.c ?_ ?_))⟩
end Go.Proofs.YtlgkpnlppgihcaaDoor

open Go Go.Am Go.Proofs
namespace Go.Proofs.YtlgkpnlppgihcaaDoor
set_option maxRecDepth 100000
theorem hS29b3_41 (B : Nat) : ∀ p ∈ ([(41, pick (Con Tryd.prog [] 41 (Qn 5)))] : List (FuncId × (List Value → Mem → Option (Value × Mem)))), SpecOk Tryd.prog [] B p.1 p.2 := (fun p hp => by simp only [List.mem_cons, List.not_mem_nil, or_false] at hp; rcases hp with rfl <;> first | exact Con.ok _)
theorem mk3_0_raw (k n : Int) (ba bb bc : Nat) (a : Option Addr) (c : Nat) (l : List DT) (Ms : Mem) (y11k y11s y11lo y11hi : Int) (y11a : Option Addr) (y11l : List DT) (y11c : Nat) (M14 : Mem) (b26 : Nat) (M27 : Mem) (b38 : Nat) (M39 M51 : Mem) (y63k y63s y63lo y63hi : Int) (y63a : Option Addr) (y63l : List DT) (y63c : Nat) (M66 : Mem) (b81 : Nat) (M82 : Mem) (b96 : Nat) (M97 M111 : Mem) (y125k y125s y125lo y125hi : Int) (y125a : Option Addr) (y125l : List DT) (y125c : Nat) (M128 : Mem) (b145 : Nat) (M146 : Mem) (b162 : Nat) (M163 M179 : Mem) (y195k y195s y195lo y195hi : Int) (y195a : Option Addr) (y195l : List DT) (y195c : Nat) (M198 : Mem) (b217 : Nat) (M218 : Mem) (b236 : Nat) (M237 M255 : Mem) : oR Tryd.prog [] 90 Tryd.f29 (.block 3 (.loop (q29.loopAt 3))) [(1, (pt ba 0)), (2, (pt bb 0)), (5, (pt bc 0)), (6, (i64 0))] Ms [ttL 30 sln, ttL 32 (nd3 k n (.slice a l.length c)), ttV 36 (nd5 y11k y11s y11lo y11hi (.slice y11a y11l.length y11c)) M14, ttV 38 (sli b26 0 1 2) M27, .at 40 (1, .val (sli b38 0 1 1), M39), ttS 44 M51, ttL 81 (sli b38 0 1 1), ttL 83 (nd3 k n (.slice a l.length c)), ttV 87 (nd5 y63k y63s y63lo y63hi (.slice y63a y63l.length y63c)) M66, ttV 89 (sli b81 0 1 2) M82, .at 91 (2, .val (sli b96 0 2 2), M97), ttS 95 M111, ttL 113 (.slice a l.length c), ttT 115, ttT 120, ttT 122, ttT 125, ttL 132 (sli b96 0 2 2), ttL 134 (nd3 k n (.slice a l.length c)), ttV 138 (nd5 y125k y125s y125lo y125hi (.slice y125a y125l.length y125c)) M128, ttV 140 (sli b145 0 1 2) M146, .at 142 (2, .val (sli b162 0 3 3), M163), ttS 146 M179, ttL 164 (.slice a l.length c), ttT 166, ttT 171, ttT 173, ttT 176, ttL 183 (sli b162 0 3 3), ttL 185 (nd3 k n (.slice a l.length c)), ttV 189 (nd5 y195k y195s y195lo y195hi (.slice y195a y195l.length y195c)) M198, ttV 191 (sli b217 0 1 2) M218, .at 193 (2, .val (sli b236 0 4 4), M237), ttS 197 M255, ttL 215 (.slice a l.length c), ttT 217, ttT 222, ttT 224, ttT 227] [2, 5] = some (.normal, [some (pt bb 0), some (pt bc 0)], (Mem.mk M255.blks M255.next Ms.hide M255.log), [qL 25 bc 4 Ms sln, qL 54 ba 0 (Mem.mk Ms.blks Ms.next (hides 0 [⟨1, 1, Ms.next, Ms.next⟩, ⟨0, 0, Ms.next, Ms.next⟩] ++ Ms.hide) Ms.log) (nd3 k n (.slice a l.length c)), qC 41 [(nd3 k n (.slice a l.length c)), i64 0] (Mem.mk Ms.blks Ms.next (hides 12 [⟨3, 0, Ms.next, Ms.next⟩, ⟨2, 1, Ms.next, Ms.next⟩, ⟨1, 1, Ms.next, Ms.next⟩, ⟨0, 0, Ms.next, Ms.next⟩] ++ Ms.hide) Ms.log) (nd5 y11k y11s y11lo y11hi (.slice y11a y11l.length y11c)) M14, .eq (abuildSlice Tryd.prog 25 1 [(0, (nd5 y11k y11s y11lo y11hi (.slice y11a y11l.length y11c)))] (Mem.mk M14.blks M14.next (hides 28 [⟨4, 1, Ms.next, M14.next⟩, ⟨3, 0, Ms.next, Ms.next⟩, ⟨2, 1, Ms.next, Ms.next⟩, ⟨1, 1, Ms.next, Ms.next⟩, ⟨0, 0, Ms.next, Ms.next⟩] ++ Ms.hide) M14.log)) (1, .val (sli b26 0 1 2), M27), .q (.append [25, 25] sln (sli b26 0 1 2) (Mem.mk M27.blks M27.next Ms.hide M27.log)) (1, .val (sli b38 0 1 1), M39), qS 25 bc 4 (sli b38 0 1 1) (Mem.mk M39.blks M39.next Ms.hide M39.log) M51, qL 25 bc 4 (Mem.mk M51.blks M51.next Ms.hide M51.log) (sli b38 0 1 1), qL 54 ba 0 (Mem.mk M51.blks M51.next (hides 0 [⟨1, 1, M51.next, M51.next⟩, ⟨0, 0, M51.next, M51.next⟩] ++ Ms.hide) M51.log) (nd3 k n (.slice a l.length c)), qC 41 [(nd3 k n (.slice a l.length c)), i64 1] (Mem.mk M51.blks M51.next (hides 12 [⟨3, 0, M51.next, M51.next⟩, ⟨2, 1, M51.next, M51.next⟩, ⟨1, 1, M51.next, M51.next⟩, ⟨0, 0, M51.next, M51.next⟩] ++ Ms.hide) M51.log) (nd5 y63k y63s y63lo y63hi (.slice y63a y63l.length y63c)) M66, .eq (abuildSlice Tryd.prog 25 1 [(0, (nd5 y63k y63s y63lo y63hi (.slice y63a y63l.length y63c)))] (Mem.mk M66.blks M66.next (hides 28 [⟨4, 1, M51.next, M66.next⟩, ⟨3, 0, M51.next, M51.next⟩, ⟨2, 1, M51.next, M51.next⟩, ⟨1, 1, M51.next, M51.next⟩, ⟨0, 0, M51.next, M51.next⟩] ++ Ms.hide) M66.log)) (1, .val (sli b81 0 1 2), M82), .q (.append [25, 25] (sli b38 0 1 1) (sli b81 0 1 2) (Mem.mk M82.blks M82.next Ms.hide M82.log)) (2, .val (sli b96 0 2 2), M97), qS 25 bc 4 (sli b96 0 2 2) (Mem.mk M97.blks M97.next Ms.hide M97.log) M111, qL 22 ba 2 (Mem.mk M111.blks M111.next Ms.hide M111.log) (.slice a l.length c), .ln a l.length c, qT (decide ((2 : Int) < (((l.length : Nat) : Int)))), qT (decide ((2 : Int) < (((l.length : Nat) : Int)))), qT (decide ((2 : Int) < (((l.length : Nat) : Int)))), qL 25 bc 4 (Mem.mk M111.blks M111.next Ms.hide M111.log) (sli b96 0 2 2), qL 54 ba 0 (Mem.mk M111.blks M111.next (hides 0 [⟨1, 1, M111.next, M111.next⟩, ⟨0, 0, M111.next, M111.next⟩] ++ Ms.hide) M111.log) (nd3 k n (.slice a l.length c)), qC 41 [(nd3 k n (.slice a l.length c)), i64 2] (Mem.mk M111.blks M111.next (hides 12 [⟨3, 0, M111.next, M111.next⟩, ⟨2, 1, M111.next, M111.next⟩, ⟨1, 1, M111.next, M111.next⟩, ⟨0, 0, M111.next, M111.next⟩] ++ Ms.hide) M111.log) (nd5 y125k y125s y125lo y125hi (.slice y125a y125l.length y125c)) M128, .eq (abuildSlice Tryd.prog 25 1 [(0, (nd5 y125k y125s y125lo y125hi (.slice y125a y125l.length y125c)))] (Mem.mk M128.blks M128.next (hides 28 [⟨4, 1, M111.next, M128.next⟩, ⟨3, 0, M111.next, M111.next⟩, ⟨2, 1, M111.next, M111.next⟩, ⟨1, 1, M111.next, M111.next⟩, ⟨0, 0, M111.next, M111.next⟩] ++ Ms.hide) M128.log)) (1, .val (sli b145 0 1 2), M146), .q (.append [25, 25] (sli b96 0 2 2) (sli b145 0 1 2) (Mem.mk M146.blks M146.next Ms.hide M146.log)) (2, .val (sli b162 0 3 3), M163), qS 25 bc 4 (sli b162 0 3 3) (Mem.mk M163.blks M163.next Ms.hide M163.log) M179, qL 22 ba 2 (Mem.mk M179.blks M179.next Ms.hide M179.log) (.slice a l.length c), .ln a l.length c, qT (decide ((3 : Int) < (((l.length : Nat) : Int)))), qT (decide ((3 : Int) < (((l.length : Nat) : Int)))), qT (decide ((3 : Int) < (((l.length : Nat) : Int)))), qL 25 bc 4 (Mem.mk M179.blks M179.next Ms.hide M179.log) (sli b162 0 3 3), qL 54 ba 0 (Mem.mk M179.blks M179.next (hides 0 [⟨1, 1, M179.next, M179.next⟩, ⟨0, 0, M179.next, M179.next⟩] ++ Ms.hide) M179.log) (nd3 k n (.slice a l.length c)), qC 41 [(nd3 k n (.slice a l.length c)), i64 3] (Mem.mk M179.blks M179.next (hides 12 [⟨3, 0, M179.next, M179.next⟩, ⟨2, 1, M179.next, M179.next⟩, ⟨1, 1, M179.next, M179.next⟩, ⟨0, 0, M179.next, M179.next⟩] ++ Ms.hide) M179.log) (nd5 y195k y195s y195lo y195hi (.slice y195a y195l.length y195c)) M198, .eq (abuildSlice Tryd.prog 25 1 [(0, (nd5 y195k y195s y195lo y195hi (.slice y195a y195l.length y195c)))] (Mem.mk M198.blks M198.next (hides 28 [⟨4, 1, M179.next, M198.next⟩, ⟨3, 0, M179.next, M179.next⟩, ⟨2, 1, M179.next, M179.next⟩, ⟨1, 1, M179.next, M179.next⟩, ⟨0, 0, M179.next, M179.next⟩] ++ Ms.hide) M198.log)) (1, .val (sli b217 0 1 2), M218), .q (.append [25, 25] (sli b162 0 3 3) (sli b217 0 1 2) (Mem.mk M218.blks M218.next Ms.hide M218.log)) (2, .val (sli b236 0 4 4), M237), qS 25 bc 4 (sli b236 0 4 4) (Mem.mk M237.blks M237.next Ms.hide M237.log) M255, qL 22 ba 2 (Mem.mk M255.blks M255.next Ms.hide M255.log) (.slice a l.length c), .ln a l.length c, qT (decide ((4 : Int) < (((l.length : Nat) : Int)))), qT (decide ((4 : Int) < (((l.length : Nat) : Int)))), qT (decide ((4 : Int) < (((l.length : Nat) : Int))))]) := by kernel_rfl
theorem mk3_0 (k n : Int) (ba bb bc : Nat) (a : Option Addr) (c : Nat) (l : List DT) {M Ms : Mem} {rows : List (List Value)} (ih : IH29 l) (hr : RowsAt 3 M l rows) (hs : SlAt M (.slice a l.length c) l.length rows) (X0 : Ext M Ms) (hM0 : MemOk Ms) (nba : M.next ≤ ba) (_ : M.next ≤ bb) (nbc : M.next ≤ bc) (_ : ba ≠ bb) (dbabc : ba ≠ bc) (dbbbc : bb ≠ bc) (ga : Ms.get ba = some ⟨[i64 k, i64 n, (.slice a l.length c)], 54, 3, 0, true⟩) (gb : Ms.get bb = some ⟨[i64 0, i64 0, i64 0, i64 0, sln], 27, 5, 0, true⟩) (gc : Ms.get bc = some ⟨[i64 5, i64 0, i64 0, i64 0, sln], 27, 5, 0, true⟩) (cc0 : (decide ((2 : Int) < (((l.length : Nat) : Int)))) = true) (cc1 : (decide ((3 : Int) < (((l.length : Nat) : Int)))) = true) (cc2 : (decide ((4 : Int) < (((l.length : Nat) : Int)))) = true) : mkR 3 5 6 5 k n (.slice a l.length c) ba bb bc M Ms := by
  have ltbaMs := Mem.lt_of_get ga
  have ltbbMs := Mem.lt_of_get gb
  have ltbcMs := Mem.lt_of_get gc
  obtain ⟨w12, N13, M14, p15, l16, e17, E18, hM19, Q20, G21⟩ := call_t hM0 (con41 (l := l) (rows := rows) ih 0 (MemOk.log hM0) (RowsAt.Ext X0 hr).log (SlAt.Ext X0 hs).log)
  have g22 := E18.old ga
  have g23 := E18.old gb
  have g24 := E18.old gc
  obtain ⟨y11t, y11S, y11q⟩ := Q20
  obtain ⟨y11k, y11s, y11lo, y11hi, y11l, y11a, y11c, y11r, y11e, y11v, _, _, _⟩ := y11q.five
  subst y11v
  have y11T : NodeAt 5 (hidx [(0, Ms.next)] M14) y11t _ := NodeAt.ext (M := hid Ms.next _) (fun _ _ h => hid_same G21 h) _ _ y11q
  have X25 := X0.trans E18
  obtain ⟨b26, M27, eb28, em29, g30, E31, hM32⟩ := new_t hM19 ⟨[i64 y11k, i64 y11s, i64 y11lo, i64 y11hi, (.slice y11a y11l.length y11c)], 27, 5, 0, true⟩
  have nb26 := nb_of eb28 X25
  have dbab26 := ne_new g22 eb28
  have dbbb26 := ne_new g23 eb28
  have dbcb26 := ne_new g24 eb28
  have hT33 := nt_new eb28 E31 y11T
  have g34 := E31.old g22
  have g35 := E31.old g23
  have g36 := E31.old g24
  have X37 := X25.trans E31
  obtain ⟨b38, M39, eb40, em41, g42, E44, hM43⟩ := new_t hM32 ⟨[i64 y11k, i64 y11s, i64 y11lo, i64 y11hi, (.slice y11a y11l.length y11c)], 27, 5, 0, true⟩
  have nb38 := nb_of eb40 X37
  have dbab38 := ne_new g34 eb40
  have dbbb38 := ne_new g35 eb40
  have dbcb38 := ne_new g36 eb40
  have db26b38 := ne_new g30 eb40
  have hT45 := nt_new eb40 E44 hT33
  have g46 := E44.old g34
  have g47 := E44.old g35
  have g48 := E44.old g36
  have g49 := E44.old g30
  have X50 := X37.trans E44
  obtain ⟨M51, q52, g53, kp54, X55, hM56, nx57⟩ := store_t (o := 4) (v := (sli b38 0 1 1)) (new := [i64 5, i64 0, i64 0, i64 0, (sli b38 0 1 1)]) X50 nbc hM43 dS25 g48 rfl rfl (Nat.zero_le _) (Nat.le_of_ble_eq_true rfl) rfl
  replace g53 : M51.get bc = some ⟨[i64 5, i64 0, i64 0, i64 0, (sli b38 0 1 1)], 27, 5, 0, true⟩ := g53
  have hT58 := nt_keep bc kp54 (by intro id hh; simp only [hidden_cons, hidden_none, or_false] at hh; omega) hT45
  have g59 := (kp54 _ dbabc).trans g46
  have g60 := (kp54 _ dbbbc).trans g47
  have g61 := (kp54 _ (Ne.symm dbcb26)).trans g49
  have g62 := (kp54 _ (Ne.symm dbcb38)).trans g42
  have ltbaM51 := Mem.lt_of_get g59
  have ltbbM51 := Mem.lt_of_get g60
  have ltbcM51 := Mem.lt_of_get g53
  have ltb26M51 := Mem.lt_of_get g61
  have ltb38M51 := Mem.lt_of_get g62
  obtain ⟨w64, N65, M66, p67, l68, e69, E70, hM71, Q72, G73⟩ := call_t hM56 (con41 (l := l) (rows := rows) ih 1 (MemOk.log hM56) (RowsAt.Ext X55 hr).log (SlAt.Ext X55 hs).log)
  have hT74 := nt_ext E70 hT58
  have g75 := E70.old g59
  have g76 := E70.old g60
  have g77 := E70.old g53
  have g78 := E70.old g61
  have g79 := E70.old g62
  obtain ⟨y63t, y63S, y63q⟩ := Q72
  obtain ⟨y63k, y63s, y63lo, y63hi, y63l, y63a, y63c, y63r, y63e, y63v, _, _, _⟩ := y63q.five
  subst y63v
  have y63T : NodeAt 5 (hidx [(0, M51.next)] M66) y63t _ := NodeAt.ext (M := hid M51.next _) (fun _ _ h => hid_same G73 h) _ _ y63q
  have X80 := X55.trans E70
  obtain ⟨b81, M82, eb83, em84, g85, E86, hM87⟩ := new_t hM71 ⟨[i64 y63k, i64 y63s, i64 y63lo, i64 y63hi, (.slice y63a y63l.length y63c)], 27, 5, 0, true⟩
  have nb81 := nb_of eb83 X80
  have dbab81 := ne_new g75 eb83
  have dbbb81 := ne_new g76 eb83
  have dbcb81 := ne_new g77 eb83
  have db26b81 := ne_new g78 eb83
  have db38b81 := ne_new g79 eb83
  have hT88 := nt_new eb83 E86 hT74
  have hT89 := nt_new eb83 E86 y63T
  have g90 := E86.old g75
  have g91 := E86.old g76
  have g92 := E86.old g77
  have g93 := E86.old g78
  have g94 := E86.old g79
  have X95 := X80.trans E86
  obtain ⟨b96, M97, eb98, em99, g100, X103, hM101, kp102⟩ := grow_t X95 nb38 hM87 ⟨[i64 y11k, i64 y11s, i64 y11lo, i64 y11hi, (.slice y11a y11l.length y11c), i64 y63k, i64 y63s, i64 y63lo, i64 y63hi, (.slice y63a y63l.length y63c)], 27, 5, 0, true⟩
  have nb96 := nb_of eb98 X95
  have dbab96 := ne_new g90 eb98
  have dbbb96 := ne_new g91 eb98
  have dbcb96 := ne_new g92 eb98
  have db26b96 := ne_new g93 eb98
  have db38b96 := ne_new g94 eb98
  have db81b96 := ne_new g85 eb98
  have hT104 := nt_grow b38 kp102 eb98 (by intro id hh; simp only [hidden_cons, hidden_none, or_false] at hh; omega) hT88
  have hT105 := nt_grow b38 kp102 eb98 (by intro id hh; simp only [hidden_cons, hidden_none, or_false] at hh; omega) hT89
  have g106 := (kp102 _ dbab38 (Mem.lt_of_get g90)).trans g90
  have g107 := (kp102 _ dbbb38 (Mem.lt_of_get g91)).trans g91
  have g108 := (kp102 _ dbcb38 (Mem.lt_of_get g92)).trans g92
  have g109 := (kp102 _ db26b38 (Mem.lt_of_get g93)).trans g93
  have g110 := (kp102 _ (Ne.symm db38b81) (Mem.lt_of_get g85)).trans g85
  obtain ⟨M111, q112, g113, kp114, X115, hM116, nx117⟩ := store_t (o := 4) (v := (sli b96 0 2 2)) (new := [i64 5, i64 0, i64 0, i64 0, (sli b96 0 2 2)]) X103 nbc hM101 dS25 g108 rfl rfl (Nat.zero_le _) (Nat.le_of_ble_eq_true rfl) rfl
  replace g113 : M111.get bc = some ⟨[i64 5, i64 0, i64 0, i64 0, (sli b96 0 2 2)], 27, 5, 0, true⟩ := g113
  have hT118 := nt_keep bc kp114 (by intro id hh; simp only [hidden_cons, hidden_none, or_false] at hh; omega) hT104
  have hT119 := nt_keep bc kp114 (by intro id hh; simp only [hidden_cons, hidden_none, or_false] at hh; omega) hT105
  have g120 := (kp114 _ dbabc).trans g106
  have g121 := (kp114 _ dbbbc).trans g107
  have g122 := (kp114 _ (Ne.symm dbcb26)).trans g109
  have g123 := (kp114 _ (Ne.symm dbcb81)).trans g110
  have g124 := (kp114 _ (Ne.symm dbcb96)).trans g100
  have ltbaM111 := Mem.lt_of_get g120
  have ltbbM111 := Mem.lt_of_get g121
  have ltbcM111 := Mem.lt_of_get g113
  have ltb26M111 := Mem.lt_of_get g122
  have ltb81M111 := Mem.lt_of_get g123
  have ltb96M111 := Mem.lt_of_get g124
  obtain ⟨w126, N127, M128, p129, l130, e131, E132, hM133, Q134, G135⟩ := call_t hM116 (con41 (l := l) (rows := rows) ih 2 (MemOk.log hM116) (RowsAt.Ext X115 hr).log (SlAt.Ext X115 hs).log)
  have hT136 := nt_ext E132 hT118
  have hT137 := nt_ext E132 hT119
  have g138 := E132.old g120
  have g139 := E132.old g121
  have g140 := E132.old g113
  have g141 := E132.old g122
  have g142 := E132.old g123
  have g143 := E132.old g124
  obtain ⟨y125t, y125S, y125q⟩ := Q134
  obtain ⟨y125k, y125s, y125lo, y125hi, y125l, y125a, y125c, y125r, y125e, y125v, _, _, _⟩ := y125q.five
  subst y125v
  have y125T : NodeAt 5 (hidx [(0, M111.next)] M128) y125t _ := NodeAt.ext (M := hid M111.next _) (fun _ _ h => hid_same G135 h) _ _ y125q
  have X144 := X115.trans E132
  obtain ⟨b145, M146, eb147, em148, g149, E150, hM151⟩ := new_t hM133 ⟨[i64 y125k, i64 y125s, i64 y125lo, i64 y125hi, (.slice y125a y125l.length y125c)], 27, 5, 0, true⟩
  have nb145 := nb_of eb147 X144
  have dbab145 := ne_new g138 eb147
  have dbbb145 := ne_new g139 eb147
  have dbcb145 := ne_new g140 eb147
  have db26b145 := ne_new g141 eb147
  have db81b145 := ne_new g142 eb147
  have db96b145 := ne_new g143 eb147
  have hT152 := nt_new eb147 E150 hT136
  have hT153 := nt_new eb147 E150 hT137
  have hT154 := nt_new eb147 E150 y125T
  have g155 := E150.old g138
  have g156 := E150.old g139
  have g157 := E150.old g140
  have g158 := E150.old g141
  have g159 := E150.old g142
  have g160 := E150.old g143
  have X161 := X144.trans E150
  obtain ⟨b162, M163, eb164, em165, g166, X169, hM167, kp168⟩ := grow_t X161 nb96 hM151 ⟨[i64 y11k, i64 y11s, i64 y11lo, i64 y11hi, (.slice y11a y11l.length y11c), i64 y63k, i64 y63s, i64 y63lo, i64 y63hi, (.slice y63a y63l.length y63c), i64 y125k, i64 y125s, i64 y125lo, i64 y125hi, (.slice y125a y125l.length y125c)], 27, 5, 0, true⟩
  have nb162 := nb_of eb164 X161
  have dbab162 := ne_new g155 eb164
  have dbbb162 := ne_new g156 eb164
  have dbcb162 := ne_new g157 eb164
  have db26b162 := ne_new g158 eb164
  have db81b162 := ne_new g159 eb164
  have db96b162 := ne_new g160 eb164
  have db145b162 := ne_new g149 eb164
  have hT170 := nt_grow b96 kp168 eb164 (by intro id hh; simp only [hidden_cons, hidden_none, or_false] at hh; omega) hT152
  have hT171 := nt_grow b96 kp168 eb164 (by intro id hh; simp only [hidden_cons, hidden_none, or_false] at hh; omega) hT153
  have hT172 := nt_grow b96 kp168 eb164 (by intro id hh; simp only [hidden_cons, hidden_none, or_false] at hh; omega) hT154
  have g173 := (kp168 _ dbab96 (Mem.lt_of_get g155)).trans g155
  have g174 := (kp168 _ dbbb96 (Mem.lt_of_get g156)).trans g156
  have g175 := (kp168 _ dbcb96 (Mem.lt_of_get g157)).trans g157
  have g176 := (kp168 _ db26b96 (Mem.lt_of_get g158)).trans g158
  have g177 := (kp168 _ db81b96 (Mem.lt_of_get g159)).trans g159
  have g178 := (kp168 _ (Ne.symm db96b145) (Mem.lt_of_get g149)).trans g149
  obtain ⟨M179, q180, g181, kp182, X183, hM184, nx185⟩ := store_t (o := 4) (v := (sli b162 0 3 3)) (new := [i64 5, i64 0, i64 0, i64 0, (sli b162 0 3 3)]) X169 nbc hM167 dS25 g175 rfl rfl (Nat.zero_le _) (Nat.le_of_ble_eq_true rfl) rfl
  replace g181 : M179.get bc = some ⟨[i64 5, i64 0, i64 0, i64 0, (sli b162 0 3 3)], 27, 5, 0, true⟩ := g181
  have hT186 := nt_keep bc kp182 (by intro id hh; simp only [hidden_cons, hidden_none, or_false] at hh; omega) hT170
  have hT187 := nt_keep bc kp182 (by intro id hh; simp only [hidden_cons, hidden_none, or_false] at hh; omega) hT171
  have hT188 := nt_keep bc kp182 (by intro id hh; simp only [hidden_cons, hidden_none, or_false] at hh; omega) hT172
  have g189 := (kp182 _ dbabc).trans g173
  have g190 := (kp182 _ dbbbc).trans g174
  have g191 := (kp182 _ (Ne.symm dbcb26)).trans g176
  have g192 := (kp182 _ (Ne.symm dbcb81)).trans g177
  have g193 := (kp182 _ (Ne.symm dbcb145)).trans g178
  have g194 := (kp182 _ (Ne.symm dbcb162)).trans g166
  have ltbaM179 := Mem.lt_of_get g189
  have ltbbM179 := Mem.lt_of_get g190
  have ltbcM179 := Mem.lt_of_get g181
  have ltb26M179 := Mem.lt_of_get g191
  have ltb81M179 := Mem.lt_of_get g192
  have ltb145M179 := Mem.lt_of_get g193
  have ltb162M179 := Mem.lt_of_get g194
  obtain ⟨w196, N197, M198, p199, l200, e201, E202, hM203, Q204, G205⟩ := call_t hM184 (con41 (l := l) (rows := rows) ih 3 (MemOk.log hM184) (RowsAt.Ext X183 hr).log (SlAt.Ext X183 hs).log)
  have hT206 := nt_ext E202 hT186
  have hT207 := nt_ext E202 hT187
  have hT208 := nt_ext E202 hT188
  have g209 := E202.old g189
  have g210 := E202.old g190
  have g211 := E202.old g181
  have g212 := E202.old g191
  have g213 := E202.old g192
  have g214 := E202.old g193
  have g215 := E202.old g194
  obtain ⟨y195t, y195S, y195q⟩ := Q204
  obtain ⟨y195k, y195s, y195lo, y195hi, y195l, y195a, y195c, y195r, y195e, y195v, _, _, _⟩ := y195q.five
  subst y195v
  have y195T : NodeAt 5 (hidx [(0, M179.next)] M198) y195t _ := NodeAt.ext (M := hid M179.next _) (fun _ _ h => hid_same G205 h) _ _ y195q
  have X216 := X183.trans E202
  obtain ⟨b217, M218, eb219, em220, g221, E222, hM223⟩ := new_t hM203 ⟨[i64 y195k, i64 y195s, i64 y195lo, i64 y195hi, (.slice y195a y195l.length y195c)], 27, 5, 0, true⟩
  have nb217 := nb_of eb219 X216
  have dbab217 := ne_new g209 eb219
  have dbbb217 := ne_new g210 eb219
  have dbcb217 := ne_new g211 eb219
  have db26b217 := ne_new g212 eb219
  have db81b217 := ne_new g213 eb219
  have db145b217 := ne_new g214 eb219
  have db162b217 := ne_new g215 eb219
  have hT224 := nt_new eb219 E222 hT206
  have hT225 := nt_new eb219 E222 hT207
  have hT226 := nt_new eb219 E222 hT208
  have hT227 := nt_new eb219 E222 y195T
  have g228 := E222.old g209
  have g229 := E222.old g210
  have g230 := E222.old g211
  have g231 := E222.old g212
  have g232 := E222.old g213
  have g233 := E222.old g214
  have g234 := E222.old g215
  have X235 := X216.trans E222
  obtain ⟨b236, M237, eb238, em239, g240, X243, hM241, kp242⟩ := grow_t X235 nb162 hM223 ⟨[i64 y11k, i64 y11s, i64 y11lo, i64 y11hi, (.slice y11a y11l.length y11c), i64 y63k, i64 y63s, i64 y63lo, i64 y63hi, (.slice y63a y63l.length y63c), i64 y125k, i64 y125s, i64 y125lo, i64 y125hi, (.slice y125a y125l.length y125c), i64 y195k, i64 y195s, i64 y195lo, i64 y195hi, (.slice y195a y195l.length y195c)], 27, 5, 0, true⟩
  have nb236 := nb_of eb238 X235
  have dbab236 := ne_new g228 eb238
  have dbbb236 := ne_new g229 eb238
  have dbcb236 := ne_new g230 eb238
  have db26b236 := ne_new g231 eb238
  have db81b236 := ne_new g232 eb238
  have db145b236 := ne_new g233 eb238
  have db162b236 := ne_new g234 eb238
  have db217b236 := ne_new g221 eb238
  have hT244 := nt_grow b162 kp242 eb238 (by intro id hh; simp only [hidden_cons, hidden_none, or_false] at hh; omega) hT224
  have hT245 := nt_grow b162 kp242 eb238 (by intro id hh; simp only [hidden_cons, hidden_none, or_false] at hh; omega) hT225
  have hT246 := nt_grow b162 kp242 eb238 (by intro id hh; simp only [hidden_cons, hidden_none, or_false] at hh; omega) hT226
  have hT247 := nt_grow b162 kp242 eb238 (by intro id hh; simp only [hidden_cons, hidden_none, or_false] at hh; omega) hT227
  have g248 := (kp242 _ dbab162 (Mem.lt_of_get g228)).trans g228
  have g249 := (kp242 _ dbbb162 (Mem.lt_of_get g229)).trans g229
  have g250 := (kp242 _ dbcb162 (Mem.lt_of_get g230)).trans g230
  have g251 := (kp242 _ db26b162 (Mem.lt_of_get g231)).trans g231
  have g252 := (kp242 _ db81b162 (Mem.lt_of_get g232)).trans g232
  have g253 := (kp242 _ db145b162 (Mem.lt_of_get g233)).trans g233
  have g254 := (kp242 _ (Ne.symm db162b217) (Mem.lt_of_get g221)).trans g221
  obtain ⟨M255, q256, g257, kp258, X259, hM260, nx261⟩ := store_t (o := 4) (v := (sli b236 0 4 4)) (new := [i64 5, i64 0, i64 0, i64 0, (sli b236 0 4 4)]) X243 nbc hM241 dS25 g250 rfl rfl (Nat.zero_le _) (Nat.le_of_ble_eq_true rfl) rfl
  replace g257 : M255.get bc = some ⟨[i64 5, i64 0, i64 0, i64 0, (sli b236 0 4 4)], 27, 5, 0, true⟩ := g257
  have hT262 := nt_keep bc kp258 (by intro id hh; simp only [hidden_cons, hidden_none, or_false] at hh; omega) hT244
  have hT263 := nt_keep bc kp258 (by intro id hh; simp only [hidden_cons, hidden_none, or_false] at hh; omega) hT245
  have hT264 := nt_keep bc kp258 (by intro id hh; simp only [hidden_cons, hidden_none, or_false] at hh; omega) hT246
  have hT265 := nt_keep bc kp258 (by intro id hh; simp only [hidden_cons, hidden_none, or_false] at hh; omega) hT247
  have g266 := (kp258 _ dbabc).trans g248
  have g267 := (kp258 _ dbbbc).trans g249
  have g268 := (kp258 _ (Ne.symm dbcb26)).trans g251
  have g269 := (kp258 _ (Ne.symm dbcb81)).trans g252
  have g270 := (kp258 _ (Ne.symm dbcb145)).trans g253
  have g271 := (kp258 _ (Ne.symm dbcb217)).trans g254
  have g272 := (kp258 _ (Ne.symm dbcb236)).trans g240
  have hraw := mk3_0_raw k n ba bb bc a c l Ms y11k y11s y11lo y11hi y11a y11l y11c M14 b26 M27 b38 M39 M51 y63k y63s y63lo y63hi y63a y63l y63c M66 b81 M82 b96 M97 M111 y125k y125s y125lo y125hi y125a y125l y125c M128 b145 M146 b162 M163 M179 y195k y195s y195lo y195hi y195a y195l y195c M198 b217 M218 b236 M237 M255
  have rw0 : Mem.mk Ms.blks Ms.next (hides 0 [⟨1, 1, Ms.next, Ms.next⟩, ⟨0, 0, Ms.next, Ms.next⟩] ++ Ms.hide) Ms.log = Ms := by rw [show hides 0 [⟨1, 1, Ms.next, Ms.next⟩, ⟨0, 0, Ms.next, Ms.next⟩] = [] from by simp [hides, Nat.beq_refl, show Nat.beq 1 0 = false from rfl]]; rfl
  have rw1 : Mem.mk Ms.blks Ms.next (hides 0 [⟨2, 1, Ms.next, Ms.next⟩, ⟨1, 1, Ms.next, Ms.next⟩, ⟨0, 0, Ms.next, Ms.next⟩] ++ Ms.hide) Ms.log = Ms := by rw [show hides 0 [⟨2, 1, Ms.next, Ms.next⟩, ⟨1, 1, Ms.next, Ms.next⟩, ⟨0, 0, Ms.next, Ms.next⟩] = [] from by simp [hides, Nat.beq_refl, show Nat.beq 1 0 = false from rfl]]; rfl
  have rw2 : Mem.mk Ms.blks Ms.next (hides 12 [⟨3, 0, Ms.next, Ms.next⟩, ⟨2, 1, Ms.next, Ms.next⟩, ⟨1, 1, Ms.next, Ms.next⟩, ⟨0, 0, Ms.next, Ms.next⟩] ++ Ms.hide) Ms.log = Ms := by rw [show hides 12 [⟨3, 0, Ms.next, Ms.next⟩, ⟨2, 1, Ms.next, Ms.next⟩, ⟨1, 1, Ms.next, Ms.next⟩, ⟨0, 0, Ms.next, Ms.next⟩] = [] from by simp [hides, Nat.beq_refl, show Nat.beq 1 0 = false from rfl, show Nat.testBit 12 2 = true from rfl]]; rfl
  have rw3 := mk_eq (X0) (X25)
  have rw4 := mk_hides (d := 28) (l := [⟨4, 1, Ms.next, M14.next⟩, ⟨3, 0, Ms.next, Ms.next⟩, ⟨2, 1, Ms.next, Ms.next⟩, ⟨1, 1, Ms.next, Ms.next⟩, ⟨0, 0, Ms.next, Ms.next⟩]) (by simp [hides, Nat.beq_refl, show Nat.beq 1 0 = false from rfl, show Nat.testBit 28 2 = true from rfl, show Nat.testBit 28 4 = true from rfl]) (X0) (X25)
  have rw5 := mk_eq (X0) (X37)
  have rw6 := mk_eq (X0) (X50)
  have rw7 := mk_eq (X0) (X55)
  have rw8 := mk_hides (d := 0) (l := [⟨1, 1, M51.next, M51.next⟩, ⟨0, 0, M51.next, M51.next⟩]) (by simp [hides, Nat.beq_refl, show Nat.beq 1 0 = false from rfl]) (X0) (X55)
  have rw9 := mk_hides (d := 0) (l := [⟨2, 1, M51.next, M51.next⟩, ⟨1, 1, M51.next, M51.next⟩, ⟨0, 0, M51.next, M51.next⟩]) (by simp [hides, Nat.beq_refl, show Nat.beq 1 0 = false from rfl]) (X0) (X55)
  have rw10 := mk_hides (d := 12) (l := [⟨3, 0, M51.next, M51.next⟩, ⟨2, 1, M51.next, M51.next⟩, ⟨1, 1, M51.next, M51.next⟩, ⟨0, 0, M51.next, M51.next⟩]) (by simp [hides, Nat.beq_refl, show Nat.beq 1 0 = false from rfl, show Nat.testBit 12 2 = true from rfl]) (X0) (X55)
  have rw11 := mk_eq (X0) (X80)
  have rw12 := mk_hides (d := 28) (l := [⟨4, 1, M51.next, M66.next⟩, ⟨3, 0, M51.next, M51.next⟩, ⟨2, 1, M51.next, M51.next⟩, ⟨1, 1, M51.next, M51.next⟩, ⟨0, 0, M51.next, M51.next⟩]) (by simp [hides, Nat.beq_refl, show Nat.beq 1 0 = false from rfl, show Nat.testBit 28 2 = true from rfl, show Nat.testBit 28 4 = true from rfl]) (X0) (X80)
  have rw13 := mk_eq (X0) (X95)
  have rw14 := mk_eq (X0) (X103)
  have rw15 := mk_eq (X0) (X115)
  have rw16 := mk_hides (d := 0) (l := [⟨1, 1, M111.next, M111.next⟩, ⟨0, 0, M111.next, M111.next⟩]) (by simp [hides, Nat.beq_refl, show Nat.beq 1 0 = false from rfl]) (X0) (X115)
  have rw17 := mk_hides (d := 0) (l := [⟨2, 1, M111.next, M111.next⟩, ⟨1, 1, M111.next, M111.next⟩, ⟨0, 0, M111.next, M111.next⟩]) (by simp [hides, Nat.beq_refl, show Nat.beq 1 0 = false from rfl]) (X0) (X115)
  have rw18 := mk_hides (d := 12) (l := [⟨3, 0, M111.next, M111.next⟩, ⟨2, 1, M111.next, M111.next⟩, ⟨1, 1, M111.next, M111.next⟩, ⟨0, 0, M111.next, M111.next⟩]) (by simp [hides, Nat.beq_refl, show Nat.beq 1 0 = false from rfl, show Nat.testBit 12 2 = true from rfl]) (X0) (X115)
  have rw19 := mk_eq (X0) (X144)
  have rw20 := mk_hides (d := 28) (l := [⟨4, 1, M111.next, M128.next⟩, ⟨3, 0, M111.next, M111.next⟩, ⟨2, 1, M111.next, M111.next⟩, ⟨1, 1, M111.next, M111.next⟩, ⟨0, 0, M111.next, M111.next⟩]) (by simp [hides, Nat.beq_refl, show Nat.beq 1 0 = false from rfl, show Nat.testBit 28 2 = true from rfl, show Nat.testBit 28 4 = true from rfl]) (X0) (X144)
  have rw21 := mk_eq (X0) (X161)
  have rw22 := mk_eq (X0) (X169)
  have rw23 := mk_eq (X0) (X183)
  have rw24 := mk_hides (d := 0) (l := [⟨1, 1, M179.next, M179.next⟩, ⟨0, 0, M179.next, M179.next⟩]) (by simp [hides, Nat.beq_refl, show Nat.beq 1 0 = false from rfl]) (X0) (X183)
  have rw25 := mk_hides (d := 0) (l := [⟨2, 1, M179.next, M179.next⟩, ⟨1, 1, M179.next, M179.next⟩, ⟨0, 0, M179.next, M179.next⟩]) (by simp [hides, Nat.beq_refl, show Nat.beq 1 0 = false from rfl]) (X0) (X183)
  have rw26 := mk_hides (d := 12) (l := [⟨3, 0, M179.next, M179.next⟩, ⟨2, 1, M179.next, M179.next⟩, ⟨1, 1, M179.next, M179.next⟩, ⟨0, 0, M179.next, M179.next⟩]) (by simp [hides, Nat.beq_refl, show Nat.beq 1 0 = false from rfl, show Nat.testBit 12 2 = true from rfl]) (X0) (X183)
  have rw27 := mk_eq (X0) (X216)
  have rw28 := mk_hides (d := 28) (l := [⟨4, 1, M179.next, M198.next⟩, ⟨3, 0, M179.next, M179.next⟩, ⟨2, 1, M179.next, M179.next⟩, ⟨1, 1, M179.next, M179.next⟩, ⟨0, 0, M179.next, M179.next⟩]) (by simp [hides, Nat.beq_refl, show Nat.beq 1 0 = false from rfl, show Nat.testBit 28 2 = true from rfl, show Nat.testBit 28 4 = true from rfl]) (X0) (X216)
  have rw29 := mk_eq (X0) (X235)
  have rw30 := mk_eq (X0) (X243)
  have rw31 := mk_eq (X0) (X259)
  try rw [rw0] at hraw
  try rw [rw1] at hraw
  try rw [rw2] at hraw
  try rw [rw3] at hraw
  try rw [rw4] at hraw
  try rw [rw5] at hraw
  try rw [rw6] at hraw
  try rw [rw7] at hraw
  try rw [rw8] at hraw
  try rw [rw9] at hraw
  try rw [rw10] at hraw
  try rw [rw11] at hraw
  try rw [rw12] at hraw
  try rw [rw13] at hraw
  try rw [rw14] at hraw
  try rw [rw15] at hraw
  try rw [rw16] at hraw
  try rw [rw17] at hraw
  try rw [rw18] at hraw
  try rw [rw19] at hraw
  try rw [rw20] at hraw
  try rw [rw21] at hraw
  try rw [rw22] at hraw
  try rw [rw23] at hraw
  try rw [rw24] at hraw
  try rw [rw25] at hraw
  try rw [rw26] at hraw
  try rw [rw27] at hraw
  try rw [rw28] at hraw
  try rw [rw29] at hraw
  try rw [rw30] at hraw
  try rw [rw31] at hraw
  obtain ⟨T1, h1, h2⟩ := Rd.told noNumP mixedP (sK hS29b3_41) (fun _ _ => rfl) hraw (hk (lC dC25 gc rfl) (hk (lA ⟨dA54, dS54⟩ ga rfl) (hk (q_call rfl p15 l16 e17) (hk (q_eq (by rw [← eb28, ← em29]; kernel_rfl) Nat.one_ne_zero) (hk (q_app (by rw [← eb40, ← em41]; exact append_nil (w := 5) (by kernel_rfl) (by kernel_rfl) (y := 56) (by kernel_rfl) (by decide) (by decide) g30 rfl rfl rfl) Nat.one_ne_zero) (hk (q_st q52) (hk (lC dC25 g53 rfl) (hk (lA ⟨dA54, dS54⟩ g59 rfl) (hk (q_call rfl p67 l68 e69) (hk (q_eq (by rw [← eb83, ← em84]; kernel_rfl) Nat.one_ne_zero) (hk (q_app (by rw [← eb98, ← em99]; exact append_more (w := 5) (by kernel_rfl) (by kernel_rfl) (y := 56) (by kernel_rfl) (by decide) (by decide) (by decide) g85 rfl rfl rfl g94 rfl rfl rfl rfl rfl) (Nat.succ_ne_zero _)) (hk (q_st q112) (hk (lC dC22 g120 rfl) (hk (lN hs.ln) (hk (bT cc0) (hk (bT cc0) (hk (bT cc0) (hk (lC dC25 g113 rfl) (hk (lA ⟨dA54, dS54⟩ g120 rfl) (hk (q_call rfl p129 l130 e131) (hk (q_eq (by rw [← eb147, ← em148]; kernel_rfl) Nat.one_ne_zero) (hk (q_app (by rw [← eb164, ← em165]; exact append_more (w := 5) (by kernel_rfl) (by kernel_rfl) (y := 56) (by kernel_rfl) (by decide) (by decide) (by decide) g149 rfl rfl rfl g160 rfl rfl rfl rfl rfl) (Nat.succ_ne_zero _)) (hk (q_st q180) (hk (lC dC22 g189 rfl) (hk (lN hs.ln) (hk (bT cc1) (hk (bT cc1) (hk (bT cc1) (hk (lC dC25 g181 rfl) (hk (lA ⟨dA54, dS54⟩ g189 rfl) (hk (q_call rfl p199 l200 e201) (hk (q_eq (by rw [← eb219, ← em220]; kernel_rfl) Nat.one_ne_zero) (hk (q_app (by rw [← eb238, ← em239]; exact append_more (w := 5) (by kernel_rfl) (by kernel_rfl) (y := 56) (by kernel_rfl) (by decide) (by decide) (by decide) g221 rfl rfl rfl g234 rfl rfl rfl rfl rfl) (Nat.succ_ne_zero _)) (hk (q_st q256) (hk (lC dC22 g266 rfl) (hk (lN hs.ln) (hk (bT cc2) (hk (bT cc2) (hk (bT cc2) hn)))))))))))))))))))))))))))))))))))))))
  exact ⟨T1, M255, (some ⟨b236, 0, none⟩), [y11t, y63t, y125t, y195t], 4, h1, h2, X259, hM260, g267, g257, NodeAt.mk5 (M := hidx [(bb, bb + 1), (0, M.next)] M255) (l := [y11t, y63t, y125t, y195t]) (rows := [[i64 y11k, i64 y11s, i64 y11lo, i64 y11hi, (.slice y11a y11l.length y11c)], [i64 y63k, i64 y63s, i64 y63lo, i64 y63hi, (.slice y63a y63l.length y63c)], [i64 y125k, i64 y125s, i64 y125lo, i64 y125hi, (.slice y125a y125l.length y125c)], [i64 y195k, i64 y195s, i64 y195lo, i64 y195hi, (.slice y195a y195l.length y195c)]]) 5 0 0 0 (hidx_get.2 ⟨by simp only [hidden_cons, hidden_none, or_false]; omega, g272⟩) rfl rfl (RowsAt.cons (NodeAt.ext (M := hidx [(b236, b236 + 1), (b217, b217 + 1), (b162, b162 + 1), (b145, b145 + 1), (b96, b96 + 1), (b81, b81 + 1), (b38, b38 + 1), (b26, b26 + 1), (0, Ms.next)] M255) (M' := hidx [(bb, bb + 1), (0, M.next)] M255) (fun _ _ h => hidx_mono (H := [(b236, b236 + 1), (b217, b217 + 1), (b162, b162 + 1), (b145, b145 + 1), (b96, b96 + 1), (b81, b81 + 1), (b38, b38 + 1), (b26, b26 + 1), (0, Ms.next)]) (H' := [(bb, bb + 1), (0, M.next)]) (fun id hh => by have := (X0).next; simp only [hidden_cons, hidden_none, or_false] at hh ⊢; omega) h) _ _ hT262) (RowsAt.cons (NodeAt.ext (M := hidx [(b236, b236 + 1), (b217, b217 + 1), (b162, b162 + 1), (b145, b145 + 1), (b96, b96 + 1), (b81, b81 + 1), (0, M51.next)] M255) (M' := hidx [(bb, bb + 1), (0, M.next)] M255) (fun _ _ h => hidx_mono (H := [(b236, b236 + 1), (b217, b217 + 1), (b162, b162 + 1), (b145, b145 + 1), (b96, b96 + 1), (b81, b81 + 1), (0, M51.next)]) (H' := [(bb, bb + 1), (0, M.next)]) (fun id hh => by have := (X55).next; simp only [hidden_cons, hidden_none, or_false] at hh ⊢; omega) h) _ _ hT263) (RowsAt.cons (NodeAt.ext (M := hidx [(b236, b236 + 1), (b217, b217 + 1), (b162, b162 + 1), (b145, b145 + 1), (0, M111.next)] M255) (M' := hidx [(bb, bb + 1), (0, M.next)] M255) (fun _ _ h => hidx_mono (H := [(b236, b236 + 1), (b217, b217 + 1), (b162, b162 + 1), (b145, b145 + 1), (0, M111.next)]) (H' := [(bb, bb + 1), (0, M.next)]) (fun id hh => by have := (X115).next; simp only [hidden_cons, hidden_none, or_false] at hh ⊢; omega) h) _ _ hT264) (RowsAt.one (NodeAt.ext (M := hidx [(b236, b236 + 1), (b217, b217 + 1), (0, M179.next)] M255) (M' := hidx [(bb, bb + 1), (0, M.next)] M255) (fun _ _ h => hidx_mono (H := [(b236, b236 + 1), (b217, b217 + 1), (0, M179.next)]) (H' := [(bb, bb + 1), (0, M.next)]) (fun id hh => by have := (X183).next; simp only [hidden_cons, hidden_none, or_false] at hh ⊢; omega) h) _ _ hT265))))) (by simp), (by first | assumption | exact Small.mk (by simp) (by repeat' first | exact Small.n0 | assumption | refine Small.c ?_ ?_))⟩
theorem mk3_1_raw (k n : Int) (ba bb bc : Nat) (a : Option Addr) (c : Nat) (l : List DT) (Ms : Mem) (y11k y11s y11lo y11hi : Int) (y11a : Option Addr) (y11l : List DT) (y11c : Nat) (M14 : Mem) (b26 : Nat) (M27 : Mem) (b38 : Nat) (M39 M51 : Mem) (y63k y63s y63lo y63hi : Int) (y63a : Option Addr) (y63l : List DT) (y63c : Nat) (M66 : Mem) (b81 : Nat) (M82 : Mem) (b96 : Nat) (M97 M111 : Mem) (y125k y125s y125lo y125hi : Int) (y125a : Option Addr) (y125l : List DT) (y125c : Nat) (M128 : Mem) (b145 : Nat) (M146 : Mem) (b162 : Nat) (M163 M179 : Mem) (y195k y195s y195lo y195hi : Int) (y195a : Option Addr) (y195l : List DT) (y195c : Nat) (M198 : Mem) (b217 : Nat) (M218 : Mem) (b236 : Nat) (M237 M255 : Mem) : oR Tryd.prog [] 90 Tryd.f29 (.block 3 (.loop (q29.loopAt 3))) [(1, (pt ba 0)), (2, (pt bb 0)), (5, (pt bc 0)), (6, (i64 0))] Ms [ttL 30 sln, ttL 32 (nd3 k n (.slice a l.length c)), ttV 36 (nd5 y11k y11s y11lo y11hi (.slice y11a y11l.length y11c)) M14, ttV 38 (sli b26 0 1 2) M27, .at 40 (1, .val (sli b38 0 1 1), M39), ttS 44 M51, ttL 81 (sli b38 0 1 1), ttL 83 (nd3 k n (.slice a l.length c)), ttV 87 (nd5 y63k y63s y63lo y63hi (.slice y63a y63l.length y63c)) M66, ttV 89 (sli b81 0 1 2) M82, .at 91 (2, .val (sli b96 0 2 2), M97), ttS 95 M111, ttL 113 (.slice a l.length c), ttT 115, ttT 120, ttT 122, ttT 125, ttL 132 (sli b96 0 2 2), ttL 134 (nd3 k n (.slice a l.length c)), ttV 138 (nd5 y125k y125s y125lo y125hi (.slice y125a y125l.length y125c)) M128, ttV 140 (sli b145 0 1 2) M146, .at 142 (2, .val (sli b162 0 3 3), M163), ttS 146 M179, ttL 164 (.slice a l.length c), ttT 166, ttT 171, ttT 173, ttT 176, ttL 183 (sli b162 0 3 3), ttL 185 (nd3 k n (.slice a l.length c)), ttV 189 (nd5 y195k y195s y195lo y195hi (.slice y195a y195l.length y195c)) M198, ttV 191 (sli b217 0 1 2) M218, .at 193 (2, .val (sli b236 0 4 4), M237), ttS 197 M255, ttL 215 (.slice a l.length c), ttT 217, ttF 222, ttF 224, ttF 227] [2, 5] = some (.normal, [some (pt bb 0), some (pt bc 0)], (Mem.mk M255.blks M255.next Ms.hide M255.log), [qL 25 bc 4 Ms sln, qL 54 ba 0 (Mem.mk Ms.blks Ms.next (hides 0 [⟨1, 1, Ms.next, Ms.next⟩, ⟨0, 0, Ms.next, Ms.next⟩] ++ Ms.hide) Ms.log) (nd3 k n (.slice a l.length c)), qC 41 [(nd3 k n (.slice a l.length c)), i64 0] (Mem.mk Ms.blks Ms.next (hides 12 [⟨3, 0, Ms.next, Ms.next⟩, ⟨2, 1, Ms.next, Ms.next⟩, ⟨1, 1, Ms.next, Ms.next⟩, ⟨0, 0, Ms.next, Ms.next⟩] ++ Ms.hide) Ms.log) (nd5 y11k y11s y11lo y11hi (.slice y11a y11l.length y11c)) M14, .eq (abuildSlice Tryd.prog 25 1 [(0, (nd5 y11k y11s y11lo y11hi (.slice y11a y11l.length y11c)))] (Mem.mk M14.blks M14.next (hides 28 [⟨4, 1, Ms.next, M14.next⟩, ⟨3, 0, Ms.next, Ms.next⟩, ⟨2, 1, Ms.next, Ms.next⟩, ⟨1, 1, Ms.next, Ms.next⟩, ⟨0, 0, Ms.next, Ms.next⟩] ++ Ms.hide) M14.log)) (1, .val (sli b26 0 1 2), M27), .q (.append [25, 25] sln (sli b26 0 1 2) (Mem.mk M27.blks M27.next Ms.hide M27.log)) (1, .val (sli b38 0 1 1), M39), qS 25 bc 4 (sli b38 0 1 1) (Mem.mk M39.blks M39.next Ms.hide M39.log) M51, qL 25 bc 4 (Mem.mk M51.blks M51.next Ms.hide M51.log) (sli b38 0 1 1), qL 54 ba 0 (Mem.mk M51.blks M51.next (hides 0 [⟨1, 1, M51.next, M51.next⟩, ⟨0, 0, M51.next, M51.next⟩] ++ Ms.hide) M51.log) (nd3 k n (.slice a l.length c)), qC 41 [(nd3 k n (.slice a l.length c)), i64 1] (Mem.mk M51.blks M51.next (hides 12 [⟨3, 0, M51.next, M51.next⟩, ⟨2, 1, M51.next, M51.next⟩, ⟨1, 1, M51.next, M51.next⟩, ⟨0, 0, M51.next, M51.next⟩] ++ Ms.hide) M51.log) (nd5 y63k y63s y63lo y63hi (.slice y63a y63l.length y63c)) M66, .eq (abuildSlice Tryd.prog 25 1 [(0, (nd5 y63k y63s y63lo y63hi (.slice y63a y63l.length y63c)))] (Mem.mk M66.blks M66.next (hides 28 [⟨4, 1, M51.next, M66.next⟩, ⟨3, 0, M51.next, M51.next⟩, ⟨2, 1, M51.next, M51.next⟩, ⟨1, 1, M51.next, M51.next⟩, ⟨0, 0, M51.next, M51.next⟩] ++ Ms.hide) M66.log)) (1, .val (sli b81 0 1 2), M82), .q (.append [25, 25] (sli b38 0 1 1) (sli b81 0 1 2) (Mem.mk M82.blks M82.next Ms.hide M82.log)) (2, .val (sli b96 0 2 2), M97), qS 25 bc 4 (sli b96 0 2 2) (Mem.mk M97.blks M97.next Ms.hide M97.log) M111, qL 22 ba 2 (Mem.mk M111.blks M111.next Ms.hide M111.log) (.slice a l.length c), .ln a l.length c, qT (decide ((2 : Int) < (((l.length : Nat) : Int)))), qT (decide ((2 : Int) < (((l.length : Nat) : Int)))), qT (decide ((2 : Int) < (((l.length : Nat) : Int)))), qL 25 bc 4 (Mem.mk M111.blks M111.next Ms.hide M111.log) (sli b96 0 2 2), qL 54 ba 0 (Mem.mk M111.blks M111.next (hides 0 [⟨1, 1, M111.next, M111.next⟩, ⟨0, 0, M111.next, M111.next⟩] ++ Ms.hide) M111.log) (nd3 k n (.slice a l.length c)), qC 41 [(nd3 k n (.slice a l.length c)), i64 2] (Mem.mk M111.blks M111.next (hides 12 [⟨3, 0, M111.next, M111.next⟩, ⟨2, 1, M111.next, M111.next⟩, ⟨1, 1, M111.next, M111.next⟩, ⟨0, 0, M111.next, M111.next⟩] ++ Ms.hide) M111.log) (nd5 y125k y125s y125lo y125hi (.slice y125a y125l.length y125c)) M128, .eq (abuildSlice Tryd.prog 25 1 [(0, (nd5 y125k y125s y125lo y125hi (.slice y125a y125l.length y125c)))] (Mem.mk M128.blks M128.next (hides 28 [⟨4, 1, M111.next, M128.next⟩, ⟨3, 0, M111.next, M111.next⟩, ⟨2, 1, M111.next, M111.next⟩, ⟨1, 1, M111.next, M111.next⟩, ⟨0, 0, M111.next, M111.next⟩] ++ Ms.hide) M128.log)) (1, .val (sli b145 0 1 2), M146), .q (.append [25, 25] (sli b96 0 2 2) (sli b145 0 1 2) (Mem.mk M146.blks M146.next Ms.hide M146.log)) (2, .val (sli b162 0 3 3), M163), qS 25 bc 4 (sli b162 0 3 3) (Mem.mk M163.blks M163.next Ms.hide M163.log) M179, qL 22 ba 2 (Mem.mk M179.blks M179.next Ms.hide M179.log) (.slice a l.length c), .ln a l.length c, qT (decide ((3 : Int) < (((l.length : Nat) : Int)))), qT (decide ((3 : Int) < (((l.length : Nat) : Int)))), qT (decide ((3 : Int) < (((l.length : Nat) : Int)))), qL 25 bc 4 (Mem.mk M179.blks M179.next Ms.hide M179.log) (sli b162 0 3 3), qL 54 ba 0 (Mem.mk M179.blks M179.next (hides 0 [⟨1, 1, M179.next, M179.next⟩, ⟨0, 0, M179.next, M179.next⟩] ++ Ms.hide) M179.log) (nd3 k n (.slice a l.length c)), qC 41 [(nd3 k n (.slice a l.length c)), i64 3] (Mem.mk M179.blks M179.next (hides 12 [⟨3, 0, M179.next, M179.next⟩, ⟨2, 1, M179.next, M179.next⟩, ⟨1, 1, M179.next, M179.next⟩, ⟨0, 0, M179.next, M179.next⟩] ++ Ms.hide) M179.log) (nd5 y195k y195s y195lo y195hi (.slice y195a y195l.length y195c)) M198, .eq (abuildSlice Tryd.prog 25 1 [(0, (nd5 y195k y195s y195lo y195hi (.slice y195a y195l.length y195c)))] (Mem.mk M198.blks M198.next (hides 28 [⟨4, 1, M179.next, M198.next⟩, ⟨3, 0, M179.next, M179.next⟩, ⟨2, 1, M179.next, M179.next⟩, ⟨1, 1, M179.next, M179.next⟩, ⟨0, 0, M179.next, M179.next⟩] ++ Ms.hide) M198.log)) (1, .val (sli b217 0 1 2), M218), .q (.append [25, 25] (sli b162 0 3 3) (sli b217 0 1 2) (Mem.mk M218.blks M218.next Ms.hide M218.log)) (2, .val (sli b236 0 4 4), M237), qS 25 bc 4 (sli b236 0 4 4) (Mem.mk M237.blks M237.next Ms.hide M237.log) M255, qL 22 ba 2 (Mem.mk M255.blks M255.next Ms.hide M255.log) (.slice a l.length c), .ln a l.length c, qF (decide ((4 : Int) < (((l.length : Nat) : Int)))), qF (decide ((4 : Int) < (((l.length : Nat) : Int)))), qF (decide ((4 : Int) < (((l.length : Nat) : Int))))]) := by kernel_rfl
theorem mk3_1 (k n : Int) (ba bb bc : Nat) (a : Option Addr) (c : Nat) (l : List DT) {M Ms : Mem} {rows : List (List Value)} (ih : IH29 l) (hr : RowsAt 3 M l rows) (hs : SlAt M (.slice a l.length c) l.length rows) (X0 : Ext M Ms) (hM0 : MemOk Ms) (nba : M.next ≤ ba) (_ : M.next ≤ bb) (nbc : M.next ≤ bc) (_ : ba ≠ bb) (dbabc : ba ≠ bc) (dbbbc : bb ≠ bc) (ga : Ms.get ba = some ⟨[i64 k, i64 n, (.slice a l.length c)], 54, 3, 0, true⟩) (gb : Ms.get bb = some ⟨[i64 0, i64 0, i64 0, i64 0, sln], 27, 5, 0, true⟩) (gc : Ms.get bc = some ⟨[i64 5, i64 0, i64 0, i64 0, sln], 27, 5, 0, true⟩) (cc0 : (decide ((2 : Int) < (((l.length : Nat) : Int)))) = true) (cc1 : (decide ((3 : Int) < (((l.length : Nat) : Int)))) = true) (cc2 : (decide ((4 : Int) < (((l.length : Nat) : Int)))) = false) : mkR 3 5 6 5 k n (.slice a l.length c) ba bb bc M Ms := by
  have ltbaMs := Mem.lt_of_get ga
  have ltbbMs := Mem.lt_of_get gb
  have ltbcMs := Mem.lt_of_get gc
  obtain ⟨w12, N13, M14, p15, l16, e17, E18, hM19, Q20, G21⟩ := call_t hM0 (con41 (l := l) (rows := rows) ih 0 (MemOk.log hM0) (RowsAt.Ext X0 hr).log (SlAt.Ext X0 hs).log)
  have g22 := E18.old ga
  have g23 := E18.old gb
  have g24 := E18.old gc
  obtain ⟨y11t, y11S, y11q⟩ := Q20
  obtain ⟨y11k, y11s, y11lo, y11hi, y11l, y11a, y11c, y11r, y11e, y11v, _, _, _⟩ := y11q.five
  subst y11v
  have y11T : NodeAt 5 (hidx [(0, Ms.next)] M14) y11t _ := NodeAt.ext (M := hid Ms.next _) (fun _ _ h => hid_same G21 h) _ _ y11q
  have X25 := X0.trans E18
  obtain ⟨b26, M27, eb28, em29, g30, E31, hM32⟩ := new_t hM19 ⟨[i64 y11k, i64 y11s, i64 y11lo, i64 y11hi, (.slice y11a y11l.length y11c)], 27, 5, 0, true⟩
  have nb26 := nb_of eb28 X25
  have dbab26 := ne_new g22 eb28
  have dbbb26 := ne_new g23 eb28
  have dbcb26 := ne_new g24 eb28
  have hT33 := nt_new eb28 E31 y11T
  have g34 := E31.old g22
  have g35 := E31.old g23
  have g36 := E31.old g24
  have X37 := X25.trans E31
  obtain ⟨b38, M39, eb40, em41, g42, E44, hM43⟩ := new_t hM32 ⟨[i64 y11k, i64 y11s, i64 y11lo, i64 y11hi, (.slice y11a y11l.length y11c)], 27, 5, 0, true⟩
  have nb38 := nb_of eb40 X37
  have dbab38 := ne_new g34 eb40
  have dbbb38 := ne_new g35 eb40
  have dbcb38 := ne_new g36 eb40
  have db26b38 := ne_new g30 eb40
  have hT45 := nt_new eb40 E44 hT33
  have g46 := E44.old g34
  have g47 := E44.old g35
  have g48 := E44.old g36
  have g49 := E44.old g30
  have X50 := X37.trans E44
  obtain ⟨M51, q52, g53, kp54, X55, hM56, nx57⟩ := store_t (o := 4) (v := (sli b38 0 1 1)) (new := [i64 5, i64 0, i64 0, i64 0, (sli b38 0 1 1)]) X50 nbc hM43 dS25 g48 rfl rfl (Nat.zero_le _) (Nat.le_of_ble_eq_true rfl) rfl
  replace g53 : M51.get bc = some ⟨[i64 5, i64 0, i64 0, i64 0, (sli b38 0 1 1)], 27, 5, 0, true⟩ := g53
  have hT58 := nt_keep bc kp54 (by intro id hh; simp only [hidden_cons, hidden_none, or_false] at hh; omega) hT45
  have g59 := (kp54 _ dbabc).trans g46
  have g60 := (kp54 _ dbbbc).trans g47
  have g61 := (kp54 _ (Ne.symm dbcb26)).trans g49
  have g62 := (kp54 _ (Ne.symm dbcb38)).trans g42
  have ltbaM51 := Mem.lt_of_get g59
  have ltbbM51 := Mem.lt_of_get g60
  have ltbcM51 := Mem.lt_of_get g53
  have ltb26M51 := Mem.lt_of_get g61
  have ltb38M51 := Mem.lt_of_get g62
  obtain ⟨w64, N65, M66, p67, l68, e69, E70, hM71, Q72, G73⟩ := call_t hM56 (con41 (l := l) (rows := rows) ih 1 (MemOk.log hM56) (RowsAt.Ext X55 hr).log (SlAt.Ext X55 hs).log)
  have hT74 := nt_ext E70 hT58
  have g75 := E70.old g59
  have g76 := E70.old g60
  have g77 := E70.old g53
  have g78 := E70.old g61
  have g79 := E70.old g62
  obtain ⟨y63t, y63S, y63q⟩ := Q72
  obtain ⟨y63k, y63s, y63lo, y63hi, y63l, y63a, y63c, y63r, y63e, y63v, _, _, _⟩ := y63q.five
  subst y63v
  have y63T : NodeAt 5 (hidx [(0, M51.next)] M66) y63t _ := NodeAt.ext (M := hid M51.next _) (fun _ _ h => hid_same G73 h) _ _ y63q
  have X80 := X55.trans E70
  obtain ⟨b81, M82, eb83, em84, g85, E86, hM87⟩ := new_t hM71 ⟨[i64 y63k, i64 y63s, i64 y63lo, i64 y63hi, (.slice y63a y63l.length y63c)], 27, 5, 0, true⟩
  have nb81 := nb_of eb83 X80
  have dbab81 := ne_new g75 eb83
  have dbbb81 := ne_new g76 eb83
  have dbcb81 := ne_new g77 eb83
  have db26b81 := ne_new g78 eb83
  have db38b81 := ne_new g79 eb83
  have hT88 := nt_new eb83 E86 hT74
  have hT89 := nt_new eb83 E86 y63T
  have g90 := E86.old g75
  have g91 := E86.old g76
  have g92 := E86.old g77
  have g93 := E86.old g78
  have g94 := E86.old g79
  have X95 := X80.trans E86
  obtain ⟨b96, M97, eb98, em99, g100, X103, hM101, kp102⟩ := grow_t X95 nb38 hM87 ⟨[i64 y11k, i64 y11s, i64 y11lo, i64 y11hi, (.slice y11a y11l.length y11c), i64 y63k, i64 y63s, i64 y63lo, i64 y63hi, (.slice y63a y63l.length y63c)], 27, 5, 0, true⟩
  have nb96 := nb_of eb98 X95
  have dbab96 := ne_new g90 eb98
  have dbbb96 := ne_new g91 eb98
  have dbcb96 := ne_new g92 eb98
  have db26b96 := ne_new g93 eb98
  have db38b96 := ne_new g94 eb98
  have db81b96 := ne_new g85 eb98
  have hT104 := nt_grow b38 kp102 eb98 (by intro id hh; simp only [hidden_cons, hidden_none, or_false] at hh; omega) hT88
  have hT105 := nt_grow b38 kp102 eb98 (by intro id hh; simp only [hidden_cons, hidden_none, or_false] at hh; omega) hT89
  have g106 := (kp102 _ dbab38 (Mem.lt_of_get g90)).trans g90
  have g107 := (kp102 _ dbbb38 (Mem.lt_of_get g91)).trans g91
  have g108 := (kp102 _ dbcb38 (Mem.lt_of_get g92)).trans g92
  have g109 := (kp102 _ db26b38 (Mem.lt_of_get g93)).trans g93
  have g110 := (kp102 _ (Ne.symm db38b81) (Mem.lt_of_get g85)).trans g85
  obtain ⟨M111, q112, g113, kp114, X115, hM116, nx117⟩ := store_t (o := 4) (v := (sli b96 0 2 2)) (new := [i64 5, i64 0, i64 0, i64 0, (sli b96 0 2 2)]) X103 nbc hM101 dS25 g108 rfl rfl (Nat.zero_le _) (Nat.le_of_ble_eq_true rfl) rfl
  replace g113 : M111.get bc = some ⟨[i64 5, i64 0, i64 0, i64 0, (sli b96 0 2 2)], 27, 5, 0, true⟩ := g113
  have hT118 := nt_keep bc kp114 (by intro id hh; simp only [hidden_cons, hidden_none, or_false] at hh; omega) hT104
  have hT119 := nt_keep bc kp114 (by intro id hh; simp only [hidden_cons, hidden_none, or_false] at hh; omega) hT105
  have g120 := (kp114 _ dbabc).trans g106
  have g121 := (kp114 _ dbbbc).trans g107
  have g122 := (kp114 _ (Ne.symm dbcb26)).trans g109
  have g123 := (kp114 _ (Ne.symm dbcb81)).trans g110
  have g124 := (kp114 _ (Ne.symm dbcb96)).trans g100
  have ltbaM111 := Mem.lt_of_get g120
  have ltbbM111 := Mem.lt_of_get g121
  have ltbcM111 := Mem.lt_of_get g113
  have ltb26M111 := Mem.lt_of_get g122
  have ltb81M111 := Mem.lt_of_get g123
  have ltb96M111 := Mem.lt_of_get g124
  obtain ⟨w126, N127, M128, p129, l130, e131, E132, hM133, Q134, G135⟩ := call_t hM116 (con41 (l := l) (rows := rows) ih 2 (MemOk.log hM116) (RowsAt.Ext X115 hr).log (SlAt.Ext X115 hs).log)
  have hT136 := nt_ext E132 hT118
  have hT137 := nt_ext E132 hT119
  have g138 := E132.old g120
  have g139 := E132.old g121
  have g140 := E132.old g113
  have g141 := E132.old g122
  have g142 := E132.old g123
  have g143 := E132.old g124
  obtain ⟨y125t, y125S, y125q⟩ := Q134
  obtain ⟨y125k, y125s, y125lo, y125hi, y125l, y125a, y125c, y125r, y125e, y125v, _, _, _⟩ := y125q.five
  subst y125v
  have y125T : NodeAt 5 (hidx [(0, M111.next)] M128) y125t _ := NodeAt.ext (M := hid M111.next _) (fun _ _ h => hid_same G135 h) _ _ y125q
  have X144 := X115.trans E132
  obtain ⟨b145, M146, eb147, em148, g149, E150, hM151⟩ := new_t hM133 ⟨[i64 y125k, i64 y125s, i64 y125lo, i64 y125hi, (.slice y125a y125l.length y125c)], 27, 5, 0, true⟩
  have nb145 := nb_of eb147 X144
  have dbab145 := ne_new g138 eb147
  have dbbb145 := ne_new g139 eb147
  have dbcb145 := ne_new g140 eb147
  have db26b145 := ne_new g141 eb147
  have db81b145 := ne_new g142 eb147
  have db96b145 := ne_new g143 eb147
  have hT152 := nt_new eb147 E150 hT136
  have hT153 := nt_new eb147 E150 hT137
  have hT154 := nt_new eb147 E150 y125T
  have g155 := E150.old g138
  have g156 := E150.old g139
  have g157 := E150.old g140
  have g158 := E150.old g141
  have g159 := E150.old g142
  have g160 := E150.old g143
  have X161 := X144.trans E150
  obtain ⟨b162, M163, eb164, em165, g166, X169, hM167, kp168⟩ := grow_t X161 nb96 hM151 ⟨[i64 y11k, i64 y11s, i64 y11lo, i64 y11hi, (.slice y11a y11l.length y11c), i64 y63k, i64 y63s, i64 y63lo, i64 y63hi, (.slice y63a y63l.length y63c), i64 y125k, i64 y125s, i64 y125lo, i64 y125hi, (.slice y125a y125l.length y125c)], 27, 5, 0, true⟩
  have nb162 := nb_of eb164 X161
  have dbab162 := ne_new g155 eb164
  have dbbb162 := ne_new g156 eb164
  have dbcb162 := ne_new g157 eb164
  have db26b162 := ne_new g158 eb164
  have db81b162 := ne_new g159 eb164
  have db96b162 := ne_new g160 eb164
  have db145b162 := ne_new g149 eb164
  have hT170 := nt_grow b96 kp168 eb164 (by intro id hh; simp only [hidden_cons, hidden_none, or_false] at hh; omega) hT152
  have hT171 := nt_grow b96 kp168 eb164 (by intro id hh; simp only [hidden_cons, hidden_none, or_false] at hh; omega) hT153
  have hT172 := nt_grow b96 kp168 eb164 (by intro id hh; simp only [hidden_cons, hidden_none, or_false] at hh; omega) hT154
  have g173 := (kp168 _ dbab96 (Mem.lt_of_get g155)).trans g155
  have g174 := (kp168 _ dbbb96 (Mem.lt_of_get g156)).trans g156
  have g175 := (kp168 _ dbcb96 (Mem.lt_of_get g157)).trans g157
  have g176 := (kp168 _ db26b96 (Mem.lt_of_get g158)).trans g158
  have g177 := (kp168 _ db81b96 (Mem.lt_of_get g159)).trans g159
  have g178 := (kp168 _ (Ne.symm db96b145) (Mem.lt_of_get g149)).trans g149
  obtain ⟨M179, q180, g181, kp182, X183, hM184, nx185⟩ := store_t (o := 4) (v := (sli b162 0 3 3)) (new := [i64 5, i64 0, i64 0, i64 0, (sli b162 0 3 3)]) X169 nbc hM167 dS25 g175 rfl rfl (Nat.zero_le _) (Nat.le_of_ble_eq_true rfl) rfl
  replace g181 : M179.get bc = some ⟨[i64 5, i64 0, i64 0, i64 0, (sli b162 0 3 3)], 27, 5, 0, true⟩ := g181
  have hT186 := nt_keep bc kp182 (by intro id hh; simp only [hidden_cons, hidden_none, or_false] at hh; omega) hT170
  have hT187 := nt_keep bc kp182 (by intro id hh; simp only [hidden_cons, hidden_none, or_false] at hh; omega) hT171
  have hT188 := nt_keep bc kp182 (by intro id hh; simp only [hidden_cons, hidden_none, or_false] at hh; omega) hT172
  have g189 := (kp182 _ dbabc).trans g173
  have g190 := (kp182 _ dbbbc).trans g174
  have g191 := (kp182 _ (Ne.symm dbcb26)).trans g176
  have g192 := (kp182 _ (Ne.symm dbcb81)).trans g177
  have g193 := (kp182 _ (Ne.symm dbcb145)).trans g178
  have g194 := (kp182 _ (Ne.symm dbcb162)).trans g166
  have ltbaM179 := Mem.lt_of_get g189
  have ltbbM179 := Mem.lt_of_get g190
  have ltbcM179 := Mem.lt_of_get g181
  have ltb26M179 := Mem.lt_of_get g191
  have ltb81M179 := Mem.lt_of_get g192
  have ltb145M179 := Mem.lt_of_get g193
  have ltb162M179 := Mem.lt_of_get g194
  obtain ⟨w196, N197, M198, p199, l200, e201, E202, hM203, Q204, G205⟩ := call_t hM184 (con41 (l := l) (rows := rows) ih 3 (MemOk.log hM184) (RowsAt.Ext X183 hr).log (SlAt.Ext X183 hs).log)
  have hT206 := nt_ext E202 hT186
  have hT207 := nt_ext E202 hT187
  have hT208 := nt_ext E202 hT188
  have g209 := E202.old g189
  have g210 := E202.old g190
  have g211 := E202.old g181
  have g212 := E202.old g191
  have g213 := E202.old g192
  have g214 := E202.old g193
  have g215 := E202.old g194
  obtain ⟨y195t, y195S, y195q⟩ := Q204
  obtain ⟨y195k, y195s, y195lo, y195hi, y195l, y195a, y195c, y195r, y195e, y195v, _, _, _⟩ := y195q.five
  subst y195v
  have y195T : NodeAt 5 (hidx [(0, M179.next)] M198) y195t _ := NodeAt.ext (M := hid M179.next _) (fun _ _ h => hid_same G205 h) _ _ y195q
  have X216 := X183.trans E202
  obtain ⟨b217, M218, eb219, em220, g221, E222, hM223⟩ := new_t hM203 ⟨[i64 y195k, i64 y195s, i64 y195lo, i64 y195hi, (.slice y195a y195l.length y195c)], 27, 5, 0, true⟩
  have nb217 := nb_of eb219 X216
  have dbab217 := ne_new g209 eb219
  have dbbb217 := ne_new g210 eb219
  have dbcb217 := ne_new g211 eb219
  have db26b217 := ne_new g212 eb219
  have db81b217 := ne_new g213 eb219
  have db145b217 := ne_new g214 eb219
  have db162b217 := ne_new g215 eb219
  have hT224 := nt_new eb219 E222 hT206
  have hT225 := nt_new eb219 E222 hT207
  have hT226 := nt_new eb219 E222 hT208
  have hT227 := nt_new eb219 E222 y195T
  have g228 := E222.old g209
  have g229 := E222.old g210
  have g230 := E222.old g211
  have g231 := E222.old g212
  have g232 := E222.old g213
  have g233 := E222.old g214
  have g234 := E222.old g215
  have X235 := X216.trans E222
  obtain ⟨b236, M237, eb238, em239, g240, X243, hM241, kp242⟩ := grow_t X235 nb162 hM223 ⟨[i64 y11k, i64 y11s, i64 y11lo, i64 y11hi, (.slice y11a y11l.length y11c), i64 y63k, i64 y63s, i64 y63lo, i64 y63hi, (.slice y63a y63l.length y63c), i64 y125k, i64 y125s, i64 y125lo, i64 y125hi, (.slice y125a y125l.length y125c), i64 y195k, i64 y195s, i64 y195lo, i64 y195hi, (.slice y195a y195l.length y195c)], 27, 5, 0, true⟩
  have nb236 := nb_of eb238 X235
  have dbab236 := ne_new g228 eb238
  have dbbb236 := ne_new g229 eb238
  have dbcb236 := ne_new g230 eb238
  have db26b236 := ne_new g231 eb238
  have db81b236 := ne_new g232 eb238
  have db145b236 := ne_new g233 eb238
  have db162b236 := ne_new g234 eb238
  have db217b236 := ne_new g221 eb238
  have hT244 := nt_grow b162 kp242 eb238 (by intro id hh; simp only [hidden_cons, hidden_none, or_false] at hh; omega) hT224
  have hT245 := nt_grow b162 kp242 eb238 (by intro id hh; simp only [hidden_cons, hidden_none, or_false] at hh; omega) hT225
  have hT246 := nt_grow b162 kp242 eb238 (by intro id hh; simp only [hidden_cons, hidden_none, or_false] at hh; omega) hT226
  have hT247 := nt_grow b162 kp242 eb238 (by intro id hh; simp only [hidden_cons, hidden_none, or_false] at hh; omega) hT227
  have g248 := (kp242 _ dbab162 (Mem.lt_of_get g228)).trans g228
  have g249 := (kp242 _ dbbb162 (Mem.lt_of_get g229)).trans g229
  have g250 := (kp242 _ dbcb162 (Mem.lt_of_get g230)).trans g230
  have g251 := (kp242 _ db26b162 (Mem.lt_of_get g231)).trans g231
  have g252 := (kp242 _ db81b162 (Mem.lt_of_get g232)).trans g232
  have g253 := (kp242 _ db145b162 (Mem.lt_of_get g233)).trans g233
  have g254 := (kp242 _ (Ne.symm db162b217) (Mem.lt_of_get g221)).trans g221
  obtain ⟨M255, q256, g257, kp258, X259, hM260, nx261⟩ := store_t (o := 4) (v := (sli b236 0 4 4)) (new := [i64 5, i64 0, i64 0, i64 0, (sli b236 0 4 4)]) X243 nbc hM241 dS25 g250 rfl rfl (Nat.zero_le _) (Nat.le_of_ble_eq_true rfl) rfl
  replace g257 : M255.get bc = some ⟨[i64 5, i64 0, i64 0, i64 0, (sli b236 0 4 4)], 27, 5, 0, true⟩ := g257
  have hT262 := nt_keep bc kp258 (by intro id hh; simp only [hidden_cons, hidden_none, or_false] at hh; omega) hT244
  have hT263 := nt_keep bc kp258 (by intro id hh; simp only [hidden_cons, hidden_none, or_false] at hh; omega) hT245
  have hT264 := nt_keep bc kp258 (by intro id hh; simp only [hidden_cons, hidden_none, or_false] at hh; omega) hT246
  have hT265 := nt_keep bc kp258 (by intro id hh; simp only [hidden_cons, hidden_none, or_false] at hh; omega) hT247
  have g266 := (kp258 _ dbabc).trans g248
  have g267 := (kp258 _ dbbbc).trans g249
  have g268 := (kp258 _ (Ne.symm dbcb26)).trans g251
  have g269 := (kp258 _ (Ne.symm dbcb81)).trans g252
  have g270 := (kp258 _ (Ne.symm dbcb145)).trans g253
  have g271 := (kp258 _ (Ne.symm dbcb217)).trans g254
  have g272 := (kp258 _ (Ne.symm dbcb236)).trans g240
  have hraw := mk3_1_raw k n ba bb bc a c l Ms y11k y11s y11lo y11hi y11a y11l y11c M14 b26 M27 b38 M39 M51 y63k y63s y63lo y63hi y63a y63l y63c M66 b81 M82 b96 M97 M111 y125k y125s y125lo y125hi y125a y125l y125c M128 b145 M146 b162 M163 M179 y195k y195s y195lo y195hi y195a y195l y195c M198 b217 M218 b236 M237 M255
  have rw0 : Mem.mk Ms.blks Ms.next (hides 0 [⟨1, 1, Ms.next, Ms.next⟩, ⟨0, 0, Ms.next, Ms.next⟩] ++ Ms.hide) Ms.log = Ms := by rw [show hides 0 [⟨1, 1, Ms.next, Ms.next⟩, ⟨0, 0, Ms.next, Ms.next⟩] = [] from by simp [hides, Nat.beq_refl, show Nat.beq 1 0 = false from rfl]]; rfl
  have rw1 : Mem.mk Ms.blks Ms.next (hides 0 [⟨2, 1, Ms.next, Ms.next⟩, ⟨1, 1, Ms.next, Ms.next⟩, ⟨0, 0, Ms.next, Ms.next⟩] ++ Ms.hide) Ms.log = Ms := by rw [show hides 0 [⟨2, 1, Ms.next, Ms.next⟩, ⟨1, 1, Ms.next, Ms.next⟩, ⟨0, 0, Ms.next, Ms.next⟩] = [] from by simp [hides, Nat.beq_refl, show Nat.beq 1 0 = false from rfl]]; rfl
  have rw2 : Mem.mk Ms.blks Ms.next (hides 12 [⟨3, 0, Ms.next, Ms.next⟩, ⟨2, 1, Ms.next, Ms.next⟩, ⟨1, 1, Ms.next, Ms.next⟩, ⟨0, 0, Ms.next, Ms.next⟩] ++ Ms.hide) Ms.log = Ms := by rw [show hides 12 [⟨3, 0, Ms.next, Ms.next⟩, ⟨2, 1, Ms.next, Ms.next⟩, ⟨1, 1, Ms.next, Ms.next⟩, ⟨0, 0, Ms.next, Ms.next⟩] = [] from by simp [hides, Nat.beq_refl, show Nat.beq 1 0 = false from rfl, show Nat.testBit 12 2 = true from rfl]]; rfl
  have rw3 := mk_eq (X0) (X25)
  have rw4 := mk_hides (d := 28) (l := [⟨4, 1, Ms.next, M14.next⟩, ⟨3, 0, Ms.next, Ms.next⟩, ⟨2, 1, Ms.next, Ms.next⟩, ⟨1, 1, Ms.next, Ms.next⟩, ⟨0, 0, Ms.next, Ms.next⟩]) (by simp [hides, Nat.beq_refl, show Nat.beq 1 0 = false from rfl, show Nat.testBit 28 2 = true from rfl, show Nat.testBit 28 4 = true from rfl]) (X0) (X25)
  have rw5 := mk_eq (X0) (X37)
  have rw6 := mk_eq (X0) (X50)
  have rw7 := mk_eq (X0) (X55)
  have rw8 := mk_hides (d := 0) (l := [⟨1, 1, M51.next, M51.next⟩, ⟨0, 0, M51.next, M51.next⟩]) (by simp [hides, Nat.beq_refl, show Nat.beq 1 0 = false from rfl]) (X0) (X55)
  have rw9 := mk_hides (d := 0) (l := [⟨2, 1, M51.next, M51.next⟩, ⟨1, 1, M51.next, M51.next⟩, ⟨0, 0, M51.next, M51.next⟩]) (by simp [hides, Nat.beq_refl, show Nat.beq 1 0 = false from rfl]) (X0) (X55)
  have rw10 := mk_hides (d := 12) (l := [⟨3, 0, M51.next, M51.next⟩, ⟨2, 1, M51.next, M51.next⟩, ⟨1, 1, M51.next, M51.next⟩, ⟨0, 0, M51.next, M51.next⟩]) (by simp [hides, Nat.beq_refl, show Nat.beq 1 0 = false from rfl, show Nat.testBit 12 2 = true from rfl]) (X0) (X55)
  have rw11 := mk_eq (X0) (X80)
  have rw12 := mk_hides (d := 28) (l := [⟨4, 1, M51.next, M66.next⟩, ⟨3, 0, M51.next, M51.next⟩, ⟨2, 1, M51.next, M51.next⟩, ⟨1, 1, M51.next, M51.next⟩, ⟨0, 0, M51.next, M51.next⟩]) (by simp [hides, Nat.beq_refl, show Nat.beq 1 0 = false from rfl, show Nat.testBit 28 2 = true from rfl, show Nat.testBit 28 4 = true from rfl]) (X0) (X80)
  have rw13 := mk_eq (X0) (X95)
  have rw14 := mk_eq (X0) (X103)
  have rw15 := mk_eq (X0) (X115)
  have rw16 := mk_hides (d := 0) (l := [⟨1, 1, M111.next, M111.next⟩, ⟨0, 0, M111.next, M111.next⟩]) (by simp [hides, Nat.beq_refl, show Nat.beq 1 0 = false from rfl]) (X0) (X115)
  have rw17 := mk_hides (d := 0) (l := [⟨2, 1, M111.next, M111.next⟩, ⟨1, 1, M111.next, M111.next⟩, ⟨0, 0, M111.next, M111.next⟩]) (by simp [hides, Nat.beq_refl, show Nat.beq 1 0 = false from rfl]) (X0) (X115)
  have rw18 := mk_hides (d := 12) (l := [⟨3, 0, M111.next, M111.next⟩, ⟨2, 1, M111.next, M111.next⟩, ⟨1, 1, M111.next, M111.next⟩, ⟨0, 0, M111.next, M111.next⟩]) (by simp [hides, Nat.beq_refl, show Nat.beq 1 0 = false from rfl, show Nat.testBit 12 2 = true from rfl]) (X0) (X115)
  have rw19 := mk_eq (X0) (X144)
  have rw20 := mk_hides (d := 28) (l := [⟨4, 1, M111.next, M128.next⟩, ⟨3, 0, M111.next, M111.next⟩, ⟨2, 1, M111.next, M111.next⟩, ⟨1, 1, M111.next, M111.next⟩, ⟨0, 0, M111.next, M111.next⟩]) (by simp [hides, Nat.beq_refl, show Nat.beq 1 0 = false from rfl, show Nat.testBit 28 2 = true from rfl, show Nat.testBit 28 4 = true from rfl]) (X0) (X144)
  have rw21 := mk_eq (X0) (X161)
  have rw22 := mk_eq (X0) (X169)
  have rw23 := mk_eq (X0) (X183)
  have rw24 := mk_hides (d := 0) (l := [⟨1, 1, M179.next, M179.next⟩, ⟨0, 0, M179.next, M179.next⟩]) (by simp [hides, Nat.beq_refl, show Nat.beq 1 0 = false from rfl]) (X0) (X183)
  have rw25 := mk_hides (d := 0) (l := [⟨2, 1, M179.next, M179.next⟩, ⟨1, 1, M179.next, M179.next⟩, ⟨0, 0, M179.next, M179.next⟩]) (by simp [hides, Nat.beq_refl, show Nat.beq 1 0 = false from rfl]) (X0) (X183)
  have rw26 := mk_hides (d := 12) (l := [⟨3, 0, M179.next, M179.next⟩, ⟨2, 1, M179.next, M179.next⟩, ⟨1, 1, M179.next, M179.next⟩, ⟨0, 0, M179.next, M179.next⟩]) (by simp [hides, Nat.beq_refl, show Nat.beq 1 0 = false from rfl, show Nat.testBit 12 2 = true from rfl]) (X0) (X183)
  have rw27 := mk_eq (X0) (X216)
  have rw28 := mk_hides (d := 28) (l := [⟨4, 1, M179.next, M198.next⟩, ⟨3, 0, M179.next, M179.next⟩, ⟨2, 1, M179.next, M179.next⟩, ⟨1, 1, M179.next, M179.next⟩, ⟨0, 0, M179.next, M179.next⟩]) (by simp [hides, Nat.beq_refl, show Nat.beq 1 0 = false from rfl, show Nat.testBit 28 2 = true from rfl, show Nat.testBit 28 4 = true from rfl]) (X0) (X216)
  have rw29 := mk_eq (X0) (X235)
  have rw30 := mk_eq (X0) (X243)
  have rw31 := mk_eq (X0) (X259)
  try rw [rw0] at hraw
  try rw [rw1] at hraw
  try rw [rw2] at hraw
  try rw [rw3] at hraw
  try rw [rw4] at hraw
  try rw [rw5] at hraw
  try rw [rw6] at hraw
  try rw [rw7] at hraw
  try rw [rw8] at hraw
  try rw [rw9] at hraw
  try rw [rw10] at hraw
  try rw [rw11] at hraw
  try rw [rw12] at hraw
  try rw [rw13] at hraw
  try rw [rw14] at hraw
  try rw [rw15] at hraw
  try rw [rw16] at hraw
  try rw [rw17] at hraw
  try rw [rw18] at hraw
  try rw [rw19] at hraw
  try rw [rw20] at hraw
  try rw [rw21] at hraw
  try rw [rw22] at hraw
  try rw [rw23] at hraw
  try rw [rw24] at hraw
  try rw [rw25] at hraw
  try rw [rw26] at hraw
  try rw [rw27] at hraw
  try rw [rw28] at hraw
  try rw [rw29] at hraw
  try rw [rw30] at hraw
  try rw [rw31] at hraw
  obtain ⟨T1, h1, h2⟩ := Rd.told noNumP mixedP (sK hS29b3_41) (fun _ _ => rfl) hraw (hk (lC dC25 gc rfl) (hk (lA ⟨dA54, dS54⟩ ga rfl) (hk (q_call rfl p15 l16 e17) (hk (q_eq (by rw [← eb28, ← em29]; kernel_rfl) Nat.one_ne_zero) (hk (q_app (by rw [← eb40, ← em41]; exact append_nil (w := 5) (by kernel_rfl) (by kernel_rfl) (y := 56) (by kernel_rfl) (by decide) (by decide) g30 rfl rfl rfl) Nat.one_ne_zero) (hk (q_st q52) (hk (lC dC25 g53 rfl) (hk (lA ⟨dA54, dS54⟩ g59 rfl) (hk (q_call rfl p67 l68 e69) (hk (q_eq (by rw [← eb83, ← em84]; kernel_rfl) Nat.one_ne_zero) (hk (q_app (by rw [← eb98, ← em99]; exact append_more (w := 5) (by kernel_rfl) (by kernel_rfl) (y := 56) (by kernel_rfl) (by decide) (by decide) (by decide) g85 rfl rfl rfl g94 rfl rfl rfl rfl rfl) (Nat.succ_ne_zero _)) (hk (q_st q112) (hk (lC dC22 g120 rfl) (hk (lN hs.ln) (hk (bT cc0) (hk (bT cc0) (hk (bT cc0) (hk (lC dC25 g113 rfl) (hk (lA ⟨dA54, dS54⟩ g120 rfl) (hk (q_call rfl p129 l130 e131) (hk (q_eq (by rw [← eb147, ← em148]; kernel_rfl) Nat.one_ne_zero) (hk (q_app (by rw [← eb164, ← em165]; exact append_more (w := 5) (by kernel_rfl) (by kernel_rfl) (y := 56) (by kernel_rfl) (by decide) (by decide) (by decide) g149 rfl rfl rfl g160 rfl rfl rfl rfl rfl) (Nat.succ_ne_zero _)) (hk (q_st q180) (hk (lC dC22 g189 rfl) (hk (lN hs.ln) (hk (bT cc1) (hk (bT cc1) (hk (bT cc1) (hk (lC dC25 g181 rfl) (hk (lA ⟨dA54, dS54⟩ g189 rfl) (hk (q_call rfl p199 l200 e201) (hk (q_eq (by rw [← eb219, ← em220]; kernel_rfl) Nat.one_ne_zero) (hk (q_app (by rw [← eb238, ← em239]; exact append_more (w := 5) (by kernel_rfl) (by kernel_rfl) (y := 56) (by kernel_rfl) (by decide) (by decide) (by decide) g221 rfl rfl rfl g234 rfl rfl rfl rfl rfl) (Nat.succ_ne_zero _)) (hk (q_st q256) (hk (lC dC22 g266 rfl) (hk (lN hs.ln) (hk (bF cc2) (hk (bF cc2) (hk (bF cc2) hn)))))))))))))))))))))))))))))))))))))))
  exact ⟨T1, M255, (some ⟨b236, 0, none⟩), [y11t, y63t, y125t, y195t], 4, h1, h2, X259, hM260, g267, g257, NodeAt.mk5 (M := hidx [(bb, bb + 1), (0, M.next)] M255) (l := [y11t, y63t, y125t, y195t]) (rows := [[i64 y11k, i64 y11s, i64 y11lo, i64 y11hi, (.slice y11a y11l.length y11c)], [i64 y63k, i64 y63s, i64 y63lo, i64 y63hi, (.slice y63a y63l.length y63c)], [i64 y125k, i64 y125s, i64 y125lo, i64 y125hi, (.slice y125a y125l.length y125c)], [i64 y195k, i64 y195s, i64 y195lo, i64 y195hi, (.slice y195a y195l.length y195c)]]) 5 0 0 0 (hidx_get.2 ⟨by simp only [hidden_cons, hidden_none, or_false]; omega, g272⟩) rfl rfl (RowsAt.cons (NodeAt.ext (M := hidx [(b236, b236 + 1), (b217, b217 + 1), (b162, b162 + 1), (b145, b145 + 1), (b96, b96 + 1), (b81, b81 + 1), (b38, b38 + 1), (b26, b26 + 1), (0, Ms.next)] M255) (M' := hidx [(bb, bb + 1), (0, M.next)] M255) (fun _ _ h => hidx_mono (H := [(b236, b236 + 1), (b217, b217 + 1), (b162, b162 + 1), (b145, b145 + 1), (b96, b96 + 1), (b81, b81 + 1), (b38, b38 + 1), (b26, b26 + 1), (0, Ms.next)]) (H' := [(bb, bb + 1), (0, M.next)]) (fun id hh => by have := (X0).next; simp only [hidden_cons, hidden_none, or_false] at hh ⊢; omega) h) _ _ hT262) (RowsAt.cons (NodeAt.ext (M := hidx [(b236, b236 + 1), (b217, b217 + 1), (b162, b162 + 1), (b145, b145 + 1), (b96, b96 + 1), (b81, b81 + 1), (0, M51.next)] M255) (M' := hidx [(bb, bb + 1), (0, M.next)] M255) (fun _ _ h => hidx_mono (H := [(b236, b236 + 1), (b217, b217 + 1), (b162, b162 + 1), (b145, b145 + 1), (b96, b96 + 1), (b81, b81 + 1), (0, M51.next)]) (H' := [(bb, bb + 1), (0, M.next)]) (fun id hh => by have := (X55).next; simp only [hidden_cons, hidden_none, or_false] at hh ⊢; omega) h) _ _ hT263) (RowsAt.cons (NodeAt.ext (M := hidx [(b236, b236 + 1), (b217, b217 + 1), (b162, b162 + 1), (b145, b145 + 1), (0, M111.next)] M255) (M' := hidx [(bb, bb + 1), (0, M.next)] M255) (fun _ _ h => hidx_mono (H := [(b236, b236 + 1), (b217, b217 + 1), (b162, b162 + 1), (b145, b145 + 1), (0, M111.next)]) (H' := [(bb, bb + 1), (0, M.next)]) (fun id hh => by have := (X115).next; simp only [hidden_cons, hidden_none, or_false] at hh ⊢; omega) h) _ _ hT264) (RowsAt.one (NodeAt.ext (M := hidx [(b236, b236 + 1), (b217, b217 + 1), (0, M179.next)] M255) (M' := hidx [(bb, bb + 1), (0, M.next)] M255) (fun _ _ h => hidx_mono (H := [(b236, b236 + 1), (b217, b217 + 1), (0, M179.next)]) (H' := [(bb, bb + 1), (0, M.next)]) (fun id hh => by have := (X183).next; simp only [hidden_cons, hidden_none, or_false] at hh ⊢; omega) h) _ _ hT265))))) (by simp), (by first | assumption | exact Small.mk (by simp) (by repeat' first | exact Small.n0 | assumption | refine Small.c ?_ ?_))⟩
theorem mk3_2_raw (k n : Int) (ba bb bc : Nat) (a : Option Addr) (c : Nat) (l : List DT) (Ms : Mem) (y11k y11s y11lo y11hi : Int) (y11a : Option Addr) (y11l : List DT) (y11c : Nat) (M14 : Mem) (b26 : Nat) (M27 : Mem) (b38 : Nat) (M39 M51 : Mem) (y63k y63s y63lo y63hi : Int) (y63a : Option Addr) (y63l : List DT) (y63c : Nat) (M66 : Mem) (b81 : Nat) (M82 : Mem) (b96 : Nat) (M97 M111 : Mem) (y125k y125s y125lo y125hi : Int) (y125a : Option Addr) (y125l : List DT) (y125c : Nat) (M128 : Mem) (b145 : Nat) (M146 : Mem) (b162 : Nat) (M163 M179 : Mem) : oR Tryd.prog [] 90 Tryd.f29 (.block 3 (.loop (q29.loopAt 3))) [(1, (pt ba 0)), (2, (pt bb 0)), (5, (pt bc 0)), (6, (i64 0))] Ms [ttL 30 sln, ttL 32 (nd3 k n (.slice a l.length c)), ttV 36 (nd5 y11k y11s y11lo y11hi (.slice y11a y11l.length y11c)) M14, ttV 38 (sli b26 0 1 2) M27, .at 40 (1, .val (sli b38 0 1 1), M39), ttS 44 M51, ttL 81 (sli b38 0 1 1), ttL 83 (nd3 k n (.slice a l.length c)), ttV 87 (nd5 y63k y63s y63lo y63hi (.slice y63a y63l.length y63c)) M66, ttV 89 (sli b81 0 1 2) M82, .at 91 (2, .val (sli b96 0 2 2), M97), ttS 95 M111, ttL 113 (.slice a l.length c), ttT 115, ttT 120, ttT 122, ttT 125, ttL 132 (sli b96 0 2 2), ttL 134 (nd3 k n (.slice a l.length c)), ttV 138 (nd5 y125k y125s y125lo y125hi (.slice y125a y125l.length y125c)) M128, ttV 140 (sli b145 0 1 2) M146, .at 142 (2, .val (sli b162 0 3 3), M163), ttS 146 M179, ttL 164 (.slice a l.length c), ttT 166, ttF 171, ttF 173, ttF 176] [2, 5] = some (.normal, [some (pt bb 0), some (pt bc 0)], (Mem.mk M179.blks M179.next Ms.hide M179.log), [qL 25 bc 4 Ms sln, qL 54 ba 0 (Mem.mk Ms.blks Ms.next (hides 0 [⟨1, 1, Ms.next, Ms.next⟩, ⟨0, 0, Ms.next, Ms.next⟩] ++ Ms.hide) Ms.log) (nd3 k n (.slice a l.length c)), qC 41 [(nd3 k n (.slice a l.length c)), i64 0] (Mem.mk Ms.blks Ms.next (hides 12 [⟨3, 0, Ms.next, Ms.next⟩, ⟨2, 1, Ms.next, Ms.next⟩, ⟨1, 1, Ms.next, Ms.next⟩, ⟨0, 0, Ms.next, Ms.next⟩] ++ Ms.hide) Ms.log) (nd5 y11k y11s y11lo y11hi (.slice y11a y11l.length y11c)) M14, .eq (abuildSlice Tryd.prog 25 1 [(0, (nd5 y11k y11s y11lo y11hi (.slice y11a y11l.length y11c)))] (Mem.mk M14.blks M14.next (hides 28 [⟨4, 1, Ms.next, M14.next⟩, ⟨3, 0, Ms.next, Ms.next⟩, ⟨2, 1, Ms.next, Ms.next⟩, ⟨1, 1, Ms.next, Ms.next⟩, ⟨0, 0, Ms.next, Ms.next⟩] ++ Ms.hide) M14.log)) (1, .val (sli b26 0 1 2), M27), .q (.append [25, 25] sln (sli b26 0 1 2) (Mem.mk M27.blks M27.next Ms.hide M27.log)) (1, .val (sli b38 0 1 1), M39), qS 25 bc 4 (sli b38 0 1 1) (Mem.mk M39.blks M39.next Ms.hide M39.log) M51, qL 25 bc 4 (Mem.mk M51.blks M51.next Ms.hide M51.log) (sli b38 0 1 1), qL 54 ba 0 (Mem.mk M51.blks M51.next (hides 0 [⟨1, 1, M51.next, M51.next⟩, ⟨0, 0, M51.next, M51.next⟩] ++ Ms.hide) M51.log) (nd3 k n (.slice a l.length c)), qC 41 [(nd3 k n (.slice a l.length c)), i64 1] (Mem.mk M51.blks M51.next (hides 12 [⟨3, 0, M51.next, M51.next⟩, ⟨2, 1, M51.next, M51.next⟩, ⟨1, 1, M51.next, M51.next⟩, ⟨0, 0, M51.next, M51.next⟩] ++ Ms.hide) M51.log) (nd5 y63k y63s y63lo y63hi (.slice y63a y63l.length y63c)) M66, .eq (abuildSlice Tryd.prog 25 1 [(0, (nd5 y63k y63s y63lo y63hi (.slice y63a y63l.length y63c)))] (Mem.mk M66.blks M66.next (hides 28 [⟨4, 1, M51.next, M66.next⟩, ⟨3, 0, M51.next, M51.next⟩, ⟨2, 1, M51.next, M51.next⟩, ⟨1, 1, M51.next, M51.next⟩, ⟨0, 0, M51.next, M51.next⟩] ++ Ms.hide) M66.log)) (1, .val (sli b81 0 1 2), M82), .q (.append [25, 25] (sli b38 0 1 1) (sli b81 0 1 2) (Mem.mk M82.blks M82.next Ms.hide M82.log)) (2, .val (sli b96 0 2 2), M97), qS 25 bc 4 (sli b96 0 2 2) (Mem.mk M97.blks M97.next Ms.hide M97.log) M111, qL 22 ba 2 (Mem.mk M111.blks M111.next Ms.hide M111.log) (.slice a l.length c), .ln a l.length c, qT (decide ((2 : Int) < (((l.length : Nat) : Int)))), qT (decide ((2 : Int) < (((l.length : Nat) : Int)))), qT (decide ((2 : Int) < (((l.length : Nat) : Int)))), qL 25 bc 4 (Mem.mk M111.blks M111.next Ms.hide M111.log) (sli b96 0 2 2), qL 54 ba 0 (Mem.mk M111.blks M111.next (hides 0 [⟨1, 1, M111.next, M111.next⟩, ⟨0, 0, M111.next, M111.next⟩] ++ Ms.hide) M111.log) (nd3 k n (.slice a l.length c)), qC 41 [(nd3 k n (.slice a l.length c)), i64 2] (Mem.mk M111.blks M111.next (hides 12 [⟨3, 0, M111.next, M111.next⟩, ⟨2, 1, M111.next, M111.next⟩, ⟨1, 1, M111.next, M111.next⟩, ⟨0, 0, M111.next, M111.next⟩] ++ Ms.hide) M111.log) (nd5 y125k y125s y125lo y125hi (.slice y125a y125l.length y125c)) M128, .eq (abuildSlice Tryd.prog 25 1 [(0, (nd5 y125k y125s y125lo y125hi (.slice y125a y125l.length y125c)))] (Mem.mk M128.blks M128.next (hides 28 [⟨4, 1, M111.next, M128.next⟩, ⟨3, 0, M111.next, M111.next⟩, ⟨2, 1, M111.next, M111.next⟩, ⟨1, 1, M111.next, M111.next⟩, ⟨0, 0, M111.next, M111.next⟩] ++ Ms.hide) M128.log)) (1, .val (sli b145 0 1 2), M146), .q (.append [25, 25] (sli b96 0 2 2) (sli b145 0 1 2) (Mem.mk M146.blks M146.next Ms.hide M146.log)) (2, .val (sli b162 0 3 3), M163), qS 25 bc 4 (sli b162 0 3 3) (Mem.mk M163.blks M163.next Ms.hide M163.log) M179, qL 22 ba 2 (Mem.mk M179.blks M179.next Ms.hide M179.log) (.slice a l.length c), .ln a l.length c, qF (decide ((3 : Int) < (((l.length : Nat) : Int)))), qF (decide ((3 : Int) < (((l.length : Nat) : Int)))), qF (decide ((3 : Int) < (((l.length : Nat) : Int))))]) := by kernel_rfl
theorem mk3_2 (k n : Int) (ba bb bc : Nat) (a : Option Addr) (c : Nat) (l : List DT) {M Ms : Mem} {rows : List (List Value)} (ih : IH29 l) (hr : RowsAt 3 M l rows) (hs : SlAt M (.slice a l.length c) l.length rows) (X0 : Ext M Ms) (hM0 : MemOk Ms) (nba : M.next ≤ ba) (_ : M.next ≤ bb) (nbc : M.next ≤ bc) (_ : ba ≠ bb) (dbabc : ba ≠ bc) (dbbbc : bb ≠ bc) (ga : Ms.get ba = some ⟨[i64 k, i64 n, (.slice a l.length c)], 54, 3, 0, true⟩) (gb : Ms.get bb = some ⟨[i64 0, i64 0, i64 0, i64 0, sln], 27, 5, 0, true⟩) (gc : Ms.get bc = some ⟨[i64 5, i64 0, i64 0, i64 0, sln], 27, 5, 0, true⟩) (cc0 : (decide ((2 : Int) < (((l.length : Nat) : Int)))) = true) (cc1 : (decide ((3 : Int) < (((l.length : Nat) : Int)))) = false) : mkR 3 5 6 5 k n (.slice a l.length c) ba bb bc M Ms := by
  have ltbaMs := Mem.lt_of_get ga
  have ltbbMs := Mem.lt_of_get gb
  have ltbcMs := Mem.lt_of_get gc
  obtain ⟨w12, N13, M14, p15, l16, e17, E18, hM19, Q20, G21⟩ := call_t hM0 (con41 (l := l) (rows := rows) ih 0 (MemOk.log hM0) (RowsAt.Ext X0 hr).log (SlAt.Ext X0 hs).log)
  have g22 := E18.old ga
  have g23 := E18.old gb
  have g24 := E18.old gc
  obtain ⟨y11t, y11S, y11q⟩ := Q20
  obtain ⟨y11k, y11s, y11lo, y11hi, y11l, y11a, y11c, y11r, y11e, y11v, _, _, _⟩ := y11q.five
  subst y11v
  have y11T : NodeAt 5 (hidx [(0, Ms.next)] M14) y11t _ := NodeAt.ext (M := hid Ms.next _) (fun _ _ h => hid_same G21 h) _ _ y11q
  have X25 := X0.trans E18
  obtain ⟨b26, M27, eb28, em29, g30, E31, hM32⟩ := new_t hM19 ⟨[i64 y11k, i64 y11s, i64 y11lo, i64 y11hi, (.slice y11a y11l.length y11c)], 27, 5, 0, true⟩
  have nb26 := nb_of eb28 X25
  have dbab26 := ne_new g22 eb28
  have dbbb26 := ne_new g23 eb28
  have dbcb26 := ne_new g24 eb28
  have hT33 := nt_new eb28 E31 y11T
  have g34 := E31.old g22
  have g35 := E31.old g23
  have g36 := E31.old g24
  have X37 := X25.trans E31
  obtain ⟨b38, M39, eb40, em41, g42, E44, hM43⟩ := new_t hM32 ⟨[i64 y11k, i64 y11s, i64 y11lo, i64 y11hi, (.slice y11a y11l.length y11c)], 27, 5, 0, true⟩
  have nb38 := nb_of eb40 X37
  have dbab38 := ne_new g34 eb40
  have dbbb38 := ne_new g35 eb40
  have dbcb38 := ne_new g36 eb40
  have db26b38 := ne_new g30 eb40
  have hT45 := nt_new eb40 E44 hT33
  have g46 := E44.old g34
  have g47 := E44.old g35
  have g48 := E44.old g36
  have g49 := E44.old g30
  have X50 := X37.trans E44
  obtain ⟨M51, q52, g53, kp54, X55, hM56, nx57⟩ := store_t (o := 4) (v := (sli b38 0 1 1)) (new := [i64 5, i64 0, i64 0, i64 0, (sli b38 0 1 1)]) X50 nbc hM43 dS25 g48 rfl rfl (Nat.zero_le _) (Nat.le_of_ble_eq_true rfl) rfl
  replace g53 : M51.get bc = some ⟨[i64 5, i64 0, i64 0, i64 0, (sli b38 0 1 1)], 27, 5, 0, true⟩ := g53
  have hT58 := nt_keep bc kp54 (by intro id hh; simp only [hidden_cons, hidden_none, or_false] at hh; omega) hT45
  have g59 := (kp54 _ dbabc).trans g46
  have g60 := (kp54 _ dbbbc).trans g47
  have g61 := (kp54 _ (Ne.symm dbcb26)).trans g49
  have g62 := (kp54 _ (Ne.symm dbcb38)).trans g42
  have ltbaM51 := Mem.lt_of_get g59
  have ltbbM51 := Mem.lt_of_get g60
  have ltbcM51 := Mem.lt_of_get g53
  have ltb26M51 := Mem.lt_of_get g61
  have ltb38M51 := Mem.lt_of_get g62
  obtain ⟨w64, N65, M66, p67, l68, e69, E70, hM71, Q72, G73⟩ := call_t hM56 (con41 (l := l) (rows := rows) ih 1 (MemOk.log hM56) (RowsAt.Ext X55 hr).log (SlAt.Ext X55 hs).log)
  have hT74 := nt_ext E70 hT58
  have g75 := E70.old g59
  have g76 := E70.old g60
  have g77 := E70.old g53
  have g78 := E70.old g61
  have g79 := E70.old g62
  obtain ⟨y63t, y63S, y63q⟩ := Q72
  obtain ⟨y63k, y63s, y63lo, y63hi, y63l, y63a, y63c, y63r, y63e, y63v, _, _, _⟩ := y63q.five
  subst y63v
  have y63T : NodeAt 5 (hidx [(0, M51.next)] M66) y63t _ := NodeAt.ext (M := hid M51.next _) (fun _ _ h => hid_same G73 h) _ _ y63q
  have X80 := X55.trans E70
  obtain ⟨b81, M82, eb83, em84, g85, E86, hM87⟩ := new_t hM71 ⟨[i64 y63k, i64 y63s, i64 y63lo, i64 y63hi, (.slice y63a y63l.length y63c)], 27, 5, 0, true⟩
  have nb81 := nb_of eb83 X80
  have dbab81 := ne_new g75 eb83
  have dbbb81 := ne_new g76 eb83
  have dbcb81 := ne_new g77 eb83
  have db26b81 := ne_new g78 eb83
  have db38b81 := ne_new g79 eb83
  have hT88 := nt_new eb83 E86 hT74
  have hT89 := nt_new eb83 E86 y63T
  have g90 := E86.old g75
  have g91 := E86.old g76
  have g92 := E86.old g77
  have g93 := E86.old g78
  have g94 := E86.old g79
  have X95 := X80.trans E86
  obtain ⟨b96, M97, eb98, em99, g100, X103, hM101, kp102⟩ := grow_t X95 nb38 hM87 ⟨[i64 y11k, i64 y11s, i64 y11lo, i64 y11hi, (.slice y11a y11l.length y11c), i64 y63k, i64 y63s, i64 y63lo, i64 y63hi, (.slice y63a y63l.length y63c)], 27, 5, 0, true⟩
  have nb96 := nb_of eb98 X95
  have dbab96 := ne_new g90 eb98
  have dbbb96 := ne_new g91 eb98
  have dbcb96 := ne_new g92 eb98
  have db26b96 := ne_new g93 eb98
  have db38b96 := ne_new g94 eb98
  have db81b96 := ne_new g85 eb98
  have hT104 := nt_grow b38 kp102 eb98 (by intro id hh; simp only [hidden_cons, hidden_none, or_false] at hh; omega) hT88
  have hT105 := nt_grow b38 kp102 eb98 (by intro id hh; simp only [hidden_cons, hidden_none, or_false] at hh; omega) hT89
  have g106 := (kp102 _ dbab38 (Mem.lt_of_get g90)).trans g90
  have g107 := (kp102 _ dbbb38 (Mem.lt_of_get g91)).trans g91
  have g108 := (kp102 _ dbcb38 (Mem.lt_of_get g92)).trans g92
  have g109 := (kp102 _ db26b38 (Mem.lt_of_get g93)).trans g93
  have g110 := (kp102 _ (Ne.symm db38b81) (Mem.lt_of_get g85)).trans g85
  obtain ⟨M111, q112, g113, kp114, X115, hM116, nx117⟩ := store_t (o := 4) (v := (sli b96 0 2 2)) (new := [i64 5, i64 0, i64 0, i64 0, (sli b96 0 2 2)]) X103 nbc hM101 dS25 g108 rfl rfl (Nat.zero_le _) (Nat.le_of_ble_eq_true rfl) rfl
  replace g113 : M111.get bc = some ⟨[i64 5, i64 0, i64 0, i64 0, (sli b96 0 2 2)], 27, 5, 0, true⟩ := g113
  have hT118 := nt_keep bc kp114 (by intro id hh; simp only [hidden_cons, hidden_none, or_false] at hh; omega) hT104
  have hT119 := nt_keep bc kp114 (by intro id hh; simp only [hidden_cons, hidden_none, or_false] at hh; omega) hT105
  have g120 := (kp114 _ dbabc).trans g106
  have g121 := (kp114 _ dbbbc).trans g107
  have g122 := (kp114 _ (Ne.symm dbcb26)).trans g109
  have g123 := (kp114 _ (Ne.symm dbcb81)).trans g110
  have g124 := (kp114 _ (Ne.symm dbcb96)).trans g100
  have ltbaM111 := Mem.lt_of_get g120
  have ltbbM111 := Mem.lt_of_get g121
  have ltbcM111 := Mem.lt_of_get g113
  have ltb26M111 := Mem.lt_of_get g122
  have ltb81M111 := Mem.lt_of_get g123
  have ltb96M111 := Mem.lt_of_get g124
  obtain ⟨w126, N127, M128, p129, l130, e131, E132, hM133, Q134, G135⟩ := call_t hM116 (con41 (l := l) (rows := rows) ih 2 (MemOk.log hM116) (RowsAt.Ext X115 hr).log (SlAt.Ext X115 hs).log)
  have hT136 := nt_ext E132 hT118
  have hT137 := nt_ext E132 hT119
  have g138 := E132.old g120
  have g139 := E132.old g121
  have g140 := E132.old g113
  have g141 := E132.old g122
  have g142 := E132.old g123
  have g143 := E132.old g124
  obtain ⟨y125t, y125S, y125q⟩ := Q134
  obtain ⟨y125k, y125s, y125lo, y125hi, y125l, y125a, y125c, y125r, y125e, y125v, _, _, _⟩ := y125q.five
  subst y125v
  have y125T : NodeAt 5 (hidx [(0, M111.next)] M128) y125t _ := NodeAt.ext (M := hid M111.next _) (fun _ _ h => hid_same G135 h) _ _ y125q
  have X144 := X115.trans E132
  obtain ⟨b145, M146, eb147, em148, g149, E150, hM151⟩ := new_t hM133 ⟨[i64 y125k, i64 y125s, i64 y125lo, i64 y125hi, (.slice y125a y125l.length y125c)], 27, 5, 0, true⟩
  have nb145 := nb_of eb147 X144
  have dbab145 := ne_new g138 eb147
  have dbbb145 := ne_new g139 eb147
  have dbcb145 := ne_new g140 eb147
  have db26b145 := ne_new g141 eb147
  have db81b145 := ne_new g142 eb147
  have db96b145 := ne_new g143 eb147
  have hT152 := nt_new eb147 E150 hT136
  have hT153 := nt_new eb147 E150 hT137
  have hT154 := nt_new eb147 E150 y125T
  have g155 := E150.old g138
  have g156 := E150.old g139
  have g157 := E150.old g140
  have g158 := E150.old g141
  have g159 := E150.old g142
  have g160 := E150.old g143
  have X161 := X144.trans E150
  obtain ⟨b162, M163, eb164, em165, g166, X169, hM167, kp168⟩ := grow_t X161 nb96 hM151 ⟨[i64 y11k, i64 y11s, i64 y11lo, i64 y11hi, (.slice y11a y11l.length y11c), i64 y63k, i64 y63s, i64 y63lo, i64 y63hi, (.slice y63a y63l.length y63c), i64 y125k, i64 y125s, i64 y125lo, i64 y125hi, (.slice y125a y125l.length y125c)], 27, 5, 0, true⟩
  have nb162 := nb_of eb164 X161
  have dbab162 := ne_new g155 eb164
  have dbbb162 := ne_new g156 eb164
  have dbcb162 := ne_new g157 eb164
  have db26b162 := ne_new g158 eb164
  have db81b162 := ne_new g159 eb164
  have db96b162 := ne_new g160 eb164
  have db145b162 := ne_new g149 eb164
  have hT170 := nt_grow b96 kp168 eb164 (by intro id hh; simp only [hidden_cons, hidden_none, or_false] at hh; omega) hT152
  have hT171 := nt_grow b96 kp168 eb164 (by intro id hh; simp only [hidden_cons, hidden_none, or_false] at hh; omega) hT153
  have hT172 := nt_grow b96 kp168 eb164 (by intro id hh; simp only [hidden_cons, hidden_none, or_false] at hh; omega) hT154
  have g173 := (kp168 _ dbab96 (Mem.lt_of_get g155)).trans g155
  have g174 := (kp168 _ dbbb96 (Mem.lt_of_get g156)).trans g156
  have g175 := (kp168 _ dbcb96 (Mem.lt_of_get g157)).trans g157
  have g176 := (kp168 _ db26b96 (Mem.lt_of_get g158)).trans g158
  have g177 := (kp168 _ db81b96 (Mem.lt_of_get g159)).trans g159
  have g178 := (kp168 _ (Ne.symm db96b145) (Mem.lt_of_get g149)).trans g149
  obtain ⟨M179, q180, g181, kp182, X183, hM184, nx185⟩ := store_t (o := 4) (v := (sli b162 0 3 3)) (new := [i64 5, i64 0, i64 0, i64 0, (sli b162 0 3 3)]) X169 nbc hM167 dS25 g175 rfl rfl (Nat.zero_le _) (Nat.le_of_ble_eq_true rfl) rfl
  replace g181 : M179.get bc = some ⟨[i64 5, i64 0, i64 0, i64 0, (sli b162 0 3 3)], 27, 5, 0, true⟩ := g181
  have hT186 := nt_keep bc kp182 (by intro id hh; simp only [hidden_cons, hidden_none, or_false] at hh; omega) hT170
  have hT187 := nt_keep bc kp182 (by intro id hh; simp only [hidden_cons, hidden_none, or_false] at hh; omega) hT171
  have hT188 := nt_keep bc kp182 (by intro id hh; simp only [hidden_cons, hidden_none, or_false] at hh; omega) hT172
  have g189 := (kp182 _ dbabc).trans g173
  have g190 := (kp182 _ dbbbc).trans g174
  have g191 := (kp182 _ (Ne.symm dbcb26)).trans g176
  have g192 := (kp182 _ (Ne.symm dbcb81)).trans g177
  have g193 := (kp182 _ (Ne.symm dbcb145)).trans g178
  have g194 := (kp182 _ (Ne.symm dbcb162)).trans g166
  have hraw := mk3_2_raw k n ba bb bc a c l Ms y11k y11s y11lo y11hi y11a y11l y11c M14 b26 M27 b38 M39 M51 y63k y63s y63lo y63hi y63a y63l y63c M66 b81 M82 b96 M97 M111 y125k y125s y125lo y125hi y125a y125l y125c M128 b145 M146 b162 M163 M179
  have rw0 : Mem.mk Ms.blks Ms.next (hides 0 [⟨1, 1, Ms.next, Ms.next⟩, ⟨0, 0, Ms.next, Ms.next⟩] ++ Ms.hide) Ms.log = Ms := by rw [show hides 0 [⟨1, 1, Ms.next, Ms.next⟩, ⟨0, 0, Ms.next, Ms.next⟩] = [] from by simp [hides, Nat.beq_refl, show Nat.beq 1 0 = false from rfl]]; rfl
  have rw1 : Mem.mk Ms.blks Ms.next (hides 0 [⟨2, 1, Ms.next, Ms.next⟩, ⟨1, 1, Ms.next, Ms.next⟩, ⟨0, 0, Ms.next, Ms.next⟩] ++ Ms.hide) Ms.log = Ms := by rw [show hides 0 [⟨2, 1, Ms.next, Ms.next⟩, ⟨1, 1, Ms.next, Ms.next⟩, ⟨0, 0, Ms.next, Ms.next⟩] = [] from by simp [hides, Nat.beq_refl, show Nat.beq 1 0 = false from rfl]]; rfl
  have rw2 : Mem.mk Ms.blks Ms.next (hides 12 [⟨3, 0, Ms.next, Ms.next⟩, ⟨2, 1, Ms.next, Ms.next⟩, ⟨1, 1, Ms.next, Ms.next⟩, ⟨0, 0, Ms.next, Ms.next⟩] ++ Ms.hide) Ms.log = Ms := by rw [show hides 12 [⟨3, 0, Ms.next, Ms.next⟩, ⟨2, 1, Ms.next, Ms.next⟩, ⟨1, 1, Ms.next, Ms.next⟩, ⟨0, 0, Ms.next, Ms.next⟩] = [] from by simp [hides, Nat.beq_refl, show Nat.beq 1 0 = false from rfl, show Nat.testBit 12 2 = true from rfl]]; rfl
  have rw3 := mk_eq (X0) (X25)
  have rw4 := mk_hides (d := 28) (l := [⟨4, 1, Ms.next, M14.next⟩, ⟨3, 0, Ms.next, Ms.next⟩, ⟨2, 1, Ms.next, Ms.next⟩, ⟨1, 1, Ms.next, Ms.next⟩, ⟨0, 0, Ms.next, Ms.next⟩]) (by simp [hides, Nat.beq_refl, show Nat.beq 1 0 = false from rfl, show Nat.testBit 28 2 = true from rfl, show Nat.testBit 28 4 = true from rfl]) (X0) (X25)
  have rw5 := mk_eq (X0) (X37)
  have rw6 := mk_eq (X0) (X50)
  have rw7 := mk_eq (X0) (X55)
  have rw8 := mk_hides (d := 0) (l := [⟨1, 1, M51.next, M51.next⟩, ⟨0, 0, M51.next, M51.next⟩]) (by simp [hides, Nat.beq_refl, show Nat.beq 1 0 = false from rfl]) (X0) (X55)
  have rw9 := mk_hides (d := 0) (l := [⟨2, 1, M51.next, M51.next⟩, ⟨1, 1, M51.next, M51.next⟩, ⟨0, 0, M51.next, M51.next⟩]) (by simp [hides, Nat.beq_refl, show Nat.beq 1 0 = false from rfl]) (X0) (X55)
  have rw10 := mk_hides (d := 12) (l := [⟨3, 0, M51.next, M51.next⟩, ⟨2, 1, M51.next, M51.next⟩, ⟨1, 1, M51.next, M51.next⟩, ⟨0, 0, M51.next, M51.next⟩]) (by simp [hides, Nat.beq_refl, show Nat.beq 1 0 = false from rfl, show Nat.testBit 12 2 = true from rfl]) (X0) (X55)
  have rw11 := mk_eq (X0) (X80)
  have rw12 := mk_hides (d := 28) (l := [⟨4, 1, M51.next, M66.next⟩, ⟨3, 0, M51.next, M51.next⟩, ⟨2, 1, M51.next, M51.next⟩, ⟨1, 1, M51.next, M51.next⟩, ⟨0, 0, M51.next, M51.next⟩]) (by simp [hides, Nat.beq_refl, show Nat.beq 1 0 = false from rfl, show Nat.testBit 28 2 = true from rfl, show Nat.testBit 28 4 = true from rfl]) (X0) (X80)
  have rw13 := mk_eq (X0) (X95)
  have rw14 := mk_eq (X0) (X103)
  have rw15 := mk_eq (X0) (X115)
  have rw16 := mk_hides (d := 0) (l := [⟨1, 1, M111.next, M111.next⟩, ⟨0, 0, M111.next, M111.next⟩]) (by simp [hides, Nat.beq_refl, show Nat.beq 1 0 = false from rfl]) (X0) (X115)
  have rw17 := mk_hides (d := 0) (l := [⟨2, 1, M111.next, M111.next⟩, ⟨1, 1, M111.next, M111.next⟩, ⟨0, 0, M111.next, M111.next⟩]) (by simp [hides, Nat.beq_refl, show Nat.beq 1 0 = false from rfl]) (X0) (X115)
  have rw18 := mk_hides (d := 12) (l := [⟨3, 0, M111.next, M111.next⟩, ⟨2, 1, M111.next, M111.next⟩, ⟨1, 1, M111.next, M111.next⟩, ⟨0, 0, M111.next, M111.next⟩]) (by simp [hides, Nat.beq_refl, show Nat.beq 1 0 = false from rfl, show Nat.testBit 12 2 = true from rfl]) (X0) (X115)
  have rw19 := mk_eq (X0) (X144)
  have rw20 := mk_hides (d := 28) (l := [⟨4, 1, M111.next, M128.next⟩, ⟨3, 0, M111.next, M111.next⟩, ⟨2, 1, M111.next, M111.next⟩, ⟨1, 1, M111.next, M111.next⟩, ⟨0, 0, M111.next, M111.next⟩]) (by simp [hides, Nat.beq_refl, show Nat.beq 1 0 = false from rfl, show Nat.testBit 28 2 = true from rfl, show Nat.testBit 28 4 = true from rfl]) (X0) (X144)
  have rw21 := mk_eq (X0) (X161)
  have rw22 := mk_eq (X0) (X169)
  have rw23 := mk_eq (X0) (X183)
  try rw [rw0] at hraw
  try rw [rw1] at hraw
  try rw [rw2] at hraw
  try rw [rw3] at hraw
  try rw [rw4] at hraw
  try rw [rw5] at hraw
  try rw [rw6] at hraw
  try rw [rw7] at hraw
  try rw [rw8] at hraw
  try rw [rw9] at hraw
  try rw [rw10] at hraw
  try rw [rw11] at hraw
  try rw [rw12] at hraw
  try rw [rw13] at hraw
  try rw [rw14] at hraw
  try rw [rw15] at hraw
  try rw [rw16] at hraw
  try rw [rw17] at hraw
  try rw [rw18] at hraw
  try rw [rw19] at hraw
  try rw [rw20] at hraw
  try rw [rw21] at hraw
  try rw [rw22] at hraw
  try rw [rw23] at hraw
  obtain ⟨T1, h1, h2⟩ := Rd.told noNumP mixedP (sK hS29b3_41) (fun _ _ => rfl) hraw (hk (lC dC25 gc rfl) (hk (lA ⟨dA54, dS54⟩ ga rfl) (hk (q_call rfl p15 l16 e17) (hk (q_eq (by rw [← eb28, ← em29]; kernel_rfl) Nat.one_ne_zero) (hk (q_app (by rw [← eb40, ← em41]; exact append_nil (w := 5) (by kernel_rfl) (by kernel_rfl) (y := 56) (by kernel_rfl) (by decide) (by decide) g30 rfl rfl rfl) Nat.one_ne_zero) (hk (q_st q52) (hk (lC dC25 g53 rfl) (hk (lA ⟨dA54, dS54⟩ g59 rfl) (hk (q_call rfl p67 l68 e69) (hk (q_eq (by rw [← eb83, ← em84]; kernel_rfl) Nat.one_ne_zero) (hk (q_app (by rw [← eb98, ← em99]; exact append_more (w := 5) (by kernel_rfl) (by kernel_rfl) (y := 56) (by kernel_rfl) (by decide) (by decide) (by decide) g85 rfl rfl rfl g94 rfl rfl rfl rfl rfl) (Nat.succ_ne_zero _)) (hk (q_st q112) (hk (lC dC22 g120 rfl) (hk (lN hs.ln) (hk (bT cc0) (hk (bT cc0) (hk (bT cc0) (hk (lC dC25 g113 rfl) (hk (lA ⟨dA54, dS54⟩ g120 rfl) (hk (q_call rfl p129 l130 e131) (hk (q_eq (by rw [← eb147, ← em148]; kernel_rfl) Nat.one_ne_zero) (hk (q_app (by rw [← eb164, ← em165]; exact append_more (w := 5) (by kernel_rfl) (by kernel_rfl) (y := 56) (by kernel_rfl) (by decide) (by decide) (by decide) g149 rfl rfl rfl g160 rfl rfl rfl rfl rfl) (Nat.succ_ne_zero _)) (hk (q_st q180) (hk (lC dC22 g189 rfl) (hk (lN hs.ln) (hk (bF cc1) (hk (bF cc1) (hk (bF cc1) hn))))))))))))))))))))))))))))
  exact ⟨T1, M179, (some ⟨b162, 0, none⟩), [y11t, y63t, y125t], 3, h1, h2, X183, hM184, g190, g181, NodeAt.mk5 (M := hidx [(bb, bb + 1), (0, M.next)] M179) (l := [y11t, y63t, y125t]) (rows := [[i64 y11k, i64 y11s, i64 y11lo, i64 y11hi, (.slice y11a y11l.length y11c)], [i64 y63k, i64 y63s, i64 y63lo, i64 y63hi, (.slice y63a y63l.length y63c)], [i64 y125k, i64 y125s, i64 y125lo, i64 y125hi, (.slice y125a y125l.length y125c)]]) 5 0 0 0 (hidx_get.2 ⟨by simp only [hidden_cons, hidden_none, or_false]; omega, g194⟩) rfl rfl (RowsAt.cons (NodeAt.ext (M := hidx [(b162, b162 + 1), (b145, b145 + 1), (b96, b96 + 1), (b81, b81 + 1), (b38, b38 + 1), (b26, b26 + 1), (0, Ms.next)] M179) (M' := hidx [(bb, bb + 1), (0, M.next)] M179) (fun _ _ h => hidx_mono (H := [(b162, b162 + 1), (b145, b145 + 1), (b96, b96 + 1), (b81, b81 + 1), (b38, b38 + 1), (b26, b26 + 1), (0, Ms.next)]) (H' := [(bb, bb + 1), (0, M.next)]) (fun id hh => by have := (X0).next; simp only [hidden_cons, hidden_none, or_false] at hh ⊢; omega) h) _ _ hT186) (RowsAt.cons (NodeAt.ext (M := hidx [(b162, b162 + 1), (b145, b145 + 1), (b96, b96 + 1), (b81, b81 + 1), (0, M51.next)] M179) (M' := hidx [(bb, bb + 1), (0, M.next)] M179) (fun _ _ h => hidx_mono (H := [(b162, b162 + 1), (b145, b145 + 1), (b96, b96 + 1), (b81, b81 + 1), (0, M51.next)]) (H' := [(bb, bb + 1), (0, M.next)]) (fun id hh => by have := (X55).next; simp only [hidden_cons, hidden_none, or_false] at hh ⊢; omega) h) _ _ hT187) (RowsAt.one (NodeAt.ext (M := hidx [(b162, b162 + 1), (b145, b145 + 1), (0, M111.next)] M179) (M' := hidx [(bb, bb + 1), (0, M.next)] M179) (fun _ _ h => hidx_mono (H := [(b162, b162 + 1), (b145, b145 + 1), (0, M111.next)]) (H' := [(bb, bb + 1), (0, M.next)]) (fun id hh => by have := (X115).next; simp only [hidden_cons, hidden_none, or_false] at hh ⊢; omega) h) _ _ hT188)))) (by simp), (by first | assumption | exact Small.mk (by simp) (by repeat' first | exact Small.n0 | assumption | refine Small.c ?_ ?_))⟩
theorem mk3_3_raw (k n : Int) (ba bb bc : Nat) (a : Option Addr) (c : Nat) (l : List DT) (Ms : Mem) (y11k y11s y11lo y11hi : Int) (y11a : Option Addr) (y11l : List DT) (y11c : Nat) (M14 : Mem) (b26 : Nat) (M27 : Mem) (b38 : Nat) (M39 M51 : Mem) (y63k y63s y63lo y63hi : Int) (y63a : Option Addr) (y63l : List DT) (y63c : Nat) (M66 : Mem) (b81 : Nat) (M82 : Mem) (b96 : Nat) (M97 M111 : Mem) : oR Tryd.prog [] 90 Tryd.f29 (.block 3 (.loop (q29.loopAt 3))) [(1, (pt ba 0)), (2, (pt bb 0)), (5, (pt bc 0)), (6, (i64 0))] Ms [ttL 30 sln, ttL 32 (nd3 k n (.slice a l.length c)), ttV 36 (nd5 y11k y11s y11lo y11hi (.slice y11a y11l.length y11c)) M14, ttV 38 (sli b26 0 1 2) M27, .at 40 (1, .val (sli b38 0 1 1), M39), ttS 44 M51, ttL 81 (sli b38 0 1 1), ttL 83 (nd3 k n (.slice a l.length c)), ttV 87 (nd5 y63k y63s y63lo y63hi (.slice y63a y63l.length y63c)) M66, ttV 89 (sli b81 0 1 2) M82, .at 91 (2, .val (sli b96 0 2 2), M97), ttS 95 M111, ttL 113 (.slice a l.length c), ttT 115, ttF 120, ttF 122, ttF 125] [2, 5] = some (.normal, [some (pt bb 0), some (pt bc 0)], (Mem.mk M111.blks M111.next Ms.hide M111.log), [qL 25 bc 4 Ms sln, qL 54 ba 0 (Mem.mk Ms.blks Ms.next (hides 0 [⟨1, 1, Ms.next, Ms.next⟩, ⟨0, 0, Ms.next, Ms.next⟩] ++ Ms.hide) Ms.log) (nd3 k n (.slice a l.length c)), qC 41 [(nd3 k n (.slice a l.length c)), i64 0] (Mem.mk Ms.blks Ms.next (hides 12 [⟨3, 0, Ms.next, Ms.next⟩, ⟨2, 1, Ms.next, Ms.next⟩, ⟨1, 1, Ms.next, Ms.next⟩, ⟨0, 0, Ms.next, Ms.next⟩] ++ Ms.hide) Ms.log) (nd5 y11k y11s y11lo y11hi (.slice y11a y11l.length y11c)) M14, .eq (abuildSlice Tryd.prog 25 1 [(0, (nd5 y11k y11s y11lo y11hi (.slice y11a y11l.length y11c)))] (Mem.mk M14.blks M14.next (hides 28 [⟨4, 1, Ms.next, M14.next⟩, ⟨3, 0, Ms.next, Ms.next⟩, ⟨2, 1, Ms.next, Ms.next⟩, ⟨1, 1, Ms.next, Ms.next⟩, ⟨0, 0, Ms.next, Ms.next⟩] ++ Ms.hide) M14.log)) (1, .val (sli b26 0 1 2), M27), .q (.append [25, 25] sln (sli b26 0 1 2) (Mem.mk M27.blks M27.next Ms.hide M27.log)) (1, .val (sli b38 0 1 1), M39), qS 25 bc 4 (sli b38 0 1 1) (Mem.mk M39.blks M39.next Ms.hide M39.log) M51, qL 25 bc 4 (Mem.mk M51.blks M51.next Ms.hide M51.log) (sli b38 0 1 1), qL 54 ba 0 (Mem.mk M51.blks M51.next (hides 0 [⟨1, 1, M51.next, M51.next⟩, ⟨0, 0, M51.next, M51.next⟩] ++ Ms.hide) M51.log) (nd3 k n (.slice a l.length c)), qC 41 [(nd3 k n (.slice a l.length c)), i64 1] (Mem.mk M51.blks M51.next (hides 12 [⟨3, 0, M51.next, M51.next⟩, ⟨2, 1, M51.next, M51.next⟩, ⟨1, 1, M51.next, M51.next⟩, ⟨0, 0, M51.next, M51.next⟩] ++ Ms.hide) M51.log) (nd5 y63k y63s y63lo y63hi (.slice y63a y63l.length y63c)) M66, .eq (abuildSlice Tryd.prog 25 1 [(0, (nd5 y63k y63s y63lo y63hi (.slice y63a y63l.length y63c)))] (Mem.mk M66.blks M66.next (hides 28 [⟨4, 1, M51.next, M66.next⟩, ⟨3, 0, M51.next, M51.next⟩, ⟨2, 1, M51.next, M51.next⟩, ⟨1, 1, M51.next, M51.next⟩, ⟨0, 0, M51.next, M51.next⟩] ++ Ms.hide) M66.log)) (1, .val (sli b81 0 1 2), M82), .q (.append [25, 25] (sli b38 0 1 1) (sli b81 0 1 2) (Mem.mk M82.blks M82.next Ms.hide M82.log)) (2, .val (sli b96 0 2 2), M97), qS 25 bc 4 (sli b96 0 2 2) (Mem.mk M97.blks M97.next Ms.hide M97.log) M111, qL 22 ba 2 (Mem.mk M111.blks M111.next Ms.hide M111.log) (.slice a l.length c), .ln a l.length c, qF (decide ((2 : Int) < (((l.length : Nat) : Int)))), qF (decide ((2 : Int) < (((l.length : Nat) : Int)))), qF (decide ((2 : Int) < (((l.length : Nat) : Int))))]) := by kernel_rfl
theorem mk3_3 (k n : Int) (ba bb bc : Nat) (a : Option Addr) (c : Nat) (l : List DT) {M Ms : Mem} {rows : List (List Value)} (ih : IH29 l) (hr : RowsAt 3 M l rows) (hs : SlAt M (.slice a l.length c) l.length rows) (X0 : Ext M Ms) (hM0 : MemOk Ms) (nba : M.next ≤ ba) (_ : M.next ≤ bb) (nbc : M.next ≤ bc) (_ : ba ≠ bb) (dbabc : ba ≠ bc) (dbbbc : bb ≠ bc) (ga : Ms.get ba = some ⟨[i64 k, i64 n, (.slice a l.length c)], 54, 3, 0, true⟩) (gb : Ms.get bb = some ⟨[i64 0, i64 0, i64 0, i64 0, sln], 27, 5, 0, true⟩) (gc : Ms.get bc = some ⟨[i64 5, i64 0, i64 0, i64 0, sln], 27, 5, 0, true⟩) (cc0 : (decide ((2 : Int) < (((l.length : Nat) : Int)))) = false) : mkR 3 5 6 5 k n (.slice a l.length c) ba bb bc M Ms := by
  have ltbaMs := Mem.lt_of_get ga
  have ltbbMs := Mem.lt_of_get gb
  have ltbcMs := Mem.lt_of_get gc
  obtain ⟨w12, N13, M14, p15, l16, e17, E18, hM19, Q20, G21⟩ := call_t hM0 (con41 (l := l) (rows := rows) ih 0 (MemOk.log hM0) (RowsAt.Ext X0 hr).log (SlAt.Ext X0 hs).log)
  have g22 := E18.old ga
  have g23 := E18.old gb
  have g24 := E18.old gc
  obtain ⟨y11t, y11S, y11q⟩ := Q20
  obtain ⟨y11k, y11s, y11lo, y11hi, y11l, y11a, y11c, y11r, y11e, y11v, _, _, _⟩ := y11q.five
  subst y11v
  have y11T : NodeAt 5 (hidx [(0, Ms.next)] M14) y11t _ := NodeAt.ext (M := hid Ms.next _) (fun _ _ h => hid_same G21 h) _ _ y11q
  have X25 := X0.trans E18
  obtain ⟨b26, M27, eb28, em29, g30, E31, hM32⟩ := new_t hM19 ⟨[i64 y11k, i64 y11s, i64 y11lo, i64 y11hi, (.slice y11a y11l.length y11c)], 27, 5, 0, true⟩
  have nb26 := nb_of eb28 X25
  have dbab26 := ne_new g22 eb28
  have dbbb26 := ne_new g23 eb28
  have dbcb26 := ne_new g24 eb28
  have hT33 := nt_new eb28 E31 y11T
  have g34 := E31.old g22
  have g35 := E31.old g23
  have g36 := E31.old g24
  have X37 := X25.trans E31
  obtain ⟨b38, M39, eb40, em41, g42, E44, hM43⟩ := new_t hM32 ⟨[i64 y11k, i64 y11s, i64 y11lo, i64 y11hi, (.slice y11a y11l.length y11c)], 27, 5, 0, true⟩
  have nb38 := nb_of eb40 X37
  have dbab38 := ne_new g34 eb40
  have dbbb38 := ne_new g35 eb40
  have dbcb38 := ne_new g36 eb40
  have db26b38 := ne_new g30 eb40
  have hT45 := nt_new eb40 E44 hT33
  have g46 := E44.old g34
  have g47 := E44.old g35
  have g48 := E44.old g36
  have g49 := E44.old g30
  have X50 := X37.trans E44
  obtain ⟨M51, q52, g53, kp54, X55, hM56, nx57⟩ := store_t (o := 4) (v := (sli b38 0 1 1)) (new := [i64 5, i64 0, i64 0, i64 0, (sli b38 0 1 1)]) X50 nbc hM43 dS25 g48 rfl rfl (Nat.zero_le _) (Nat.le_of_ble_eq_true rfl) rfl
  replace g53 : M51.get bc = some ⟨[i64 5, i64 0, i64 0, i64 0, (sli b38 0 1 1)], 27, 5, 0, true⟩ := g53
  have hT58 := nt_keep bc kp54 (by intro id hh; simp only [hidden_cons, hidden_none, or_false] at hh; omega) hT45
  have g59 := (kp54 _ dbabc).trans g46
  have g60 := (kp54 _ dbbbc).trans g47
  have g61 := (kp54 _ (Ne.symm dbcb26)).trans g49
  have g62 := (kp54 _ (Ne.symm dbcb38)).trans g42
  have ltbaM51 := Mem.lt_of_get g59
  have ltbbM51 := Mem.lt_of_get g60
  have ltbcM51 := Mem.lt_of_get g53
  have ltb26M51 := Mem.lt_of_get g61
  have ltb38M51 := Mem.lt_of_get g62
  obtain ⟨w64, N65, M66, p67, l68, e69, E70, hM71, Q72, G73⟩ := call_t hM56 (con41 (l := l) (rows := rows) ih 1 (MemOk.log hM56) (RowsAt.Ext X55 hr).log (SlAt.Ext X55 hs).log)
  have hT74 := nt_ext E70 hT58
  have g75 := E70.old g59
  have g76 := E70.old g60
  have g77 := E70.old g53
  have g78 := E70.old g61
  have g79 := E70.old g62
  obtain ⟨y63t, y63S, y63q⟩ := Q72
  obtain ⟨y63k, y63s, y63lo, y63hi, y63l, y63a, y63c, y63r, y63e, y63v, _, _, _⟩ := y63q.five
  subst y63v
  have y63T : NodeAt 5 (hidx [(0, M51.next)] M66) y63t _ := NodeAt.ext (M := hid M51.next _) (fun _ _ h => hid_same G73 h) _ _ y63q
  have X80 := X55.trans E70
  obtain ⟨b81, M82, eb83, em84, g85, E86, hM87⟩ := new_t hM71 ⟨[i64 y63k, i64 y63s, i64 y63lo, i64 y63hi, (.slice y63a y63l.length y63c)], 27, 5, 0, true⟩
  have nb81 := nb_of eb83 X80
  have dbab81 := ne_new g75 eb83
  have dbbb81 := ne_new g76 eb83
  have dbcb81 := ne_new g77 eb83
  have db26b81 := ne_new g78 eb83
  have db38b81 := ne_new g79 eb83
  have hT88 := nt_new eb83 E86 hT74
  have hT89 := nt_new eb83 E86 y63T
  have g90 := E86.old g75
  have g91 := E86.old g76
  have g92 := E86.old g77
  have g93 := E86.old g78
  have g94 := E86.old g79
  have X95 := X80.trans E86
  obtain ⟨b96, M97, eb98, em99, g100, X103, hM101, kp102⟩ := grow_t X95 nb38 hM87 ⟨[i64 y11k, i64 y11s, i64 y11lo, i64 y11hi, (.slice y11a y11l.length y11c), i64 y63k, i64 y63s, i64 y63lo, i64 y63hi, (.slice y63a y63l.length y63c)], 27, 5, 0, true⟩
  have nb96 := nb_of eb98 X95
  have dbab96 := ne_new g90 eb98
  have dbbb96 := ne_new g91 eb98
  have dbcb96 := ne_new g92 eb98
  have db26b96 := ne_new g93 eb98
  have db38b96 := ne_new g94 eb98
  have db81b96 := ne_new g85 eb98
  have hT104 := nt_grow b38 kp102 eb98 (by intro id hh; simp only [hidden_cons, hidden_none, or_false] at hh; omega) hT88
  have hT105 := nt_grow b38 kp102 eb98 (by intro id hh; simp only [hidden_cons, hidden_none, or_false] at hh; omega) hT89
  have g106 := (kp102 _ dbab38 (Mem.lt_of_get g90)).trans g90
  have g107 := (kp102 _ dbbb38 (Mem.lt_of_get g91)).trans g91
  have g108 := (kp102 _ dbcb38 (Mem.lt_of_get g92)).trans g92
  have g109 := (kp102 _ db26b38 (Mem.lt_of_get g93)).trans g93
  have g110 := (kp102 _ (Ne.symm db38b81) (Mem.lt_of_get g85)).trans g85
  obtain ⟨M111, q112, g113, kp114, X115, hM116, nx117⟩ := store_t (o := 4) (v := (sli b96 0 2 2)) (new := [i64 5, i64 0, i64 0, i64 0, (sli b96 0 2 2)]) X103 nbc hM101 dS25 g108 rfl rfl (Nat.zero_le _) (Nat.le_of_ble_eq_true rfl) rfl
  replace g113 : M111.get bc = some ⟨[i64 5, i64 0, i64 0, i64 0, (sli b96 0 2 2)], 27, 5, 0, true⟩ := g113
  have hT118 := nt_keep bc kp114 (by intro id hh; simp only [hidden_cons, hidden_none, or_false] at hh; omega) hT104
  have hT119 := nt_keep bc kp114 (by intro id hh; simp only [hidden_cons, hidden_none, or_false] at hh; omega) hT105
  have g120 := (kp114 _ dbabc).trans g106
  have g121 := (kp114 _ dbbbc).trans g107
  have g122 := (kp114 _ (Ne.symm dbcb26)).trans g109
  have g123 := (kp114 _ (Ne.symm dbcb81)).trans g110
  have g124 := (kp114 _ (Ne.symm dbcb96)).trans g100
  have hraw := mk3_3_raw k n ba bb bc a c l Ms y11k y11s y11lo y11hi y11a y11l y11c M14 b26 M27 b38 M39 M51 y63k y63s y63lo y63hi y63a y63l y63c M66 b81 M82 b96 M97 M111
  have rw0 : Mem.mk Ms.blks Ms.next (hides 0 [⟨1, 1, Ms.next, Ms.next⟩, ⟨0, 0, Ms.next, Ms.next⟩] ++ Ms.hide) Ms.log = Ms := by rw [show hides 0 [⟨1, 1, Ms.next, Ms.next⟩, ⟨0, 0, Ms.next, Ms.next⟩] = [] from by simp [hides, Nat.beq_refl, show Nat.beq 1 0 = false from rfl]]; rfl
  have rw1 : Mem.mk Ms.blks Ms.next (hides 0 [⟨2, 1, Ms.next, Ms.next⟩, ⟨1, 1, Ms.next, Ms.next⟩, ⟨0, 0, Ms.next, Ms.next⟩] ++ Ms.hide) Ms.log = Ms := by rw [show hides 0 [⟨2, 1, Ms.next, Ms.next⟩, ⟨1, 1, Ms.next, Ms.next⟩, ⟨0, 0, Ms.next, Ms.next⟩] = [] from by simp [hides, Nat.beq_refl, show Nat.beq 1 0 = false from rfl]]; rfl
  have rw2 : Mem.mk Ms.blks Ms.next (hides 12 [⟨3, 0, Ms.next, Ms.next⟩, ⟨2, 1, Ms.next, Ms.next⟩, ⟨1, 1, Ms.next, Ms.next⟩, ⟨0, 0, Ms.next, Ms.next⟩] ++ Ms.hide) Ms.log = Ms := by rw [show hides 12 [⟨3, 0, Ms.next, Ms.next⟩, ⟨2, 1, Ms.next, Ms.next⟩, ⟨1, 1, Ms.next, Ms.next⟩, ⟨0, 0, Ms.next, Ms.next⟩] = [] from by simp [hides, Nat.beq_refl, show Nat.beq 1 0 = false from rfl, show Nat.testBit 12 2 = true from rfl]]; rfl
  have rw3 := mk_eq (X0) (X25)
  have rw4 := mk_hides (d := 28) (l := [⟨4, 1, Ms.next, M14.next⟩, ⟨3, 0, Ms.next, Ms.next⟩, ⟨2, 1, Ms.next, Ms.next⟩, ⟨1, 1, Ms.next, Ms.next⟩, ⟨0, 0, Ms.next, Ms.next⟩]) (by simp [hides, Nat.beq_refl, show Nat.beq 1 0 = false from rfl, show Nat.testBit 28 2 = true from rfl, show Nat.testBit 28 4 = true from rfl]) (X0) (X25)
  have rw5 := mk_eq (X0) (X37)
  have rw6 := mk_eq (X0) (X50)
  have rw7 := mk_eq (X0) (X55)
  have rw8 := mk_hides (d := 0) (l := [⟨1, 1, M51.next, M51.next⟩, ⟨0, 0, M51.next, M51.next⟩]) (by simp [hides, Nat.beq_refl, show Nat.beq 1 0 = false from rfl]) (X0) (X55)
  have rw9 := mk_hides (d := 0) (l := [⟨2, 1, M51.next, M51.next⟩, ⟨1, 1, M51.next, M51.next⟩, ⟨0, 0, M51.next, M51.next⟩]) (by simp [hides, Nat.beq_refl, show Nat.beq 1 0 = false from rfl]) (X0) (X55)
  have rw10 := mk_hides (d := 12) (l := [⟨3, 0, M51.next, M51.next⟩, ⟨2, 1, M51.next, M51.next⟩, ⟨1, 1, M51.next, M51.next⟩, ⟨0, 0, M51.next, M51.next⟩]) (by simp [hides, Nat.beq_refl, show Nat.beq 1 0 = false from rfl, show Nat.testBit 12 2 = true from rfl]) (X0) (X55)
  have rw11 := mk_eq (X0) (X80)
  have rw12 := mk_hides (d := 28) (l := [⟨4, 1, M51.next, M66.next⟩, ⟨3, 0, M51.next, M51.next⟩, ⟨2, 1, M51.next, M51.next⟩, ⟨1, 1, M51.next, M51.next⟩, ⟨0, 0, M51.next, M51.next⟩]) (by simp [hides, Nat.beq_refl, show Nat.beq 1 0 = false from rfl, show Nat.testBit 28 2 = true from rfl, show Nat.testBit 28 4 = true from rfl]) (X0) (X80)
  have rw13 := mk_eq (X0) (X95)
  have rw14 := mk_eq (X0) (X103)
  have rw15 := mk_eq (X0) (X115)
  try rw [rw0] at hraw
  try rw [rw1] at hraw
  try rw [rw2] at hraw
  try rw [rw3] at hraw
  try rw [rw4] at hraw
  try rw [rw5] at hraw
  try rw [rw6] at hraw
  try rw [rw7] at hraw
  try rw [rw8] at hraw
  try rw [rw9] at hraw
  try rw [rw10] at hraw
  try rw [rw11] at hraw
  try rw [rw12] at hraw
  try rw [rw13] at hraw
  try rw [rw14] at hraw
  try rw [rw15] at hraw
  obtain ⟨T1, h1, h2⟩ := Rd.told noNumP mixedP (sK hS29b3_41) (fun _ _ => rfl) hraw (hk (lC dC25 gc rfl) (hk (lA ⟨dA54, dS54⟩ ga rfl) (hk (q_call rfl p15 l16 e17) (hk (q_eq (by rw [← eb28, ← em29]; kernel_rfl) Nat.one_ne_zero) (hk (q_app (by rw [← eb40, ← em41]; exact append_nil (w := 5) (by kernel_rfl) (by kernel_rfl) (y := 56) (by kernel_rfl) (by decide) (by decide) g30 rfl rfl rfl) Nat.one_ne_zero) (hk (q_st q52) (hk (lC dC25 g53 rfl) (hk (lA ⟨dA54, dS54⟩ g59 rfl) (hk (q_call rfl p67 l68 e69) (hk (q_eq (by rw [← eb83, ← em84]; kernel_rfl) Nat.one_ne_zero) (hk (q_app (by rw [← eb98, ← em99]; exact append_more (w := 5) (by kernel_rfl) (by kernel_rfl) (y := 56) (by kernel_rfl) (by decide) (by decide) (by decide) g85 rfl rfl rfl g94 rfl rfl rfl rfl rfl) (Nat.succ_ne_zero _)) (hk (q_st q112) (hk (lC dC22 g120 rfl) (hk (lN hs.ln) (hk (bF cc0) (hk (bF cc0) (hk (bF cc0) hn)))))))))))))))))
  exact ⟨T1, M111, (some ⟨b96, 0, none⟩), [y11t, y63t], 2, h1, h2, X115, hM116, g121, g113, NodeAt.mk5 (M := hidx [(bb, bb + 1), (0, M.next)] M111) (l := [y11t, y63t]) (rows := [[i64 y11k, i64 y11s, i64 y11lo, i64 y11hi, (.slice y11a y11l.length y11c)], [i64 y63k, i64 y63s, i64 y63lo, i64 y63hi, (.slice y63a y63l.length y63c)]]) 5 0 0 0 (hidx_get.2 ⟨by simp only [hidden_cons, hidden_none, or_false]; omega, g124⟩) rfl rfl (RowsAt.cons (NodeAt.ext (M := hidx [(b96, b96 + 1), (b81, b81 + 1), (b38, b38 + 1), (b26, b26 + 1), (0, Ms.next)] M111) (M' := hidx [(bb, bb + 1), (0, M.next)] M111) (fun _ _ h => hidx_mono (H := [(b96, b96 + 1), (b81, b81 + 1), (b38, b38 + 1), (b26, b26 + 1), (0, Ms.next)]) (H' := [(bb, bb + 1), (0, M.next)]) (fun id hh => by have := (X0).next; simp only [hidden_cons, hidden_none, or_false] at hh ⊢; omega) h) _ _ hT118) (RowsAt.one (NodeAt.ext (M := hidx [(b96, b96 + 1), (b81, b81 + 1), (0, M51.next)] M111) (M' := hidx [(bb, bb + 1), (0, M.next)] M111) (fun _ _ h => hidx_mono (H := [(b96, b96 + 1), (b81, b81 + 1), (0, M51.next)]) (H' := [(bb, bb + 1), (0, M.next)]) (fun id hh => by have := (X55).next; simp only [hidden_cons, hidden_none, or_false] at hh ⊢; omega) h) _ _ hT119))) (by simp), (by first | assumption | exact Small.mk (by simp) (by repeat' first | exact Small.n0 | assumption | refine Small.c ?_ ?_))⟩
end Go.Proofs.YtlgkpnlppgihcaaDoor
