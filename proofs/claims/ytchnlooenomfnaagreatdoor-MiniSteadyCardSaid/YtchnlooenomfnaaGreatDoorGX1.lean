/-
  What is proved: MiniSteady: a machine of Make's is steady just if a letter twice is a letter once: for every x, y, every word. For every argument; one laid table (math/bits) is tied by the card.
-/
import Derived.Shelf.Spec.SlicesInsertGrow
import Derived.Test.YtchnlooenomfnaaGreatDoorProg
import Derived.Test.YtchnlooenomfnaaGreatDoorGAmRows
import Derived.Test.YtchnlooenomfnaaGreatDoorGAmRF
set_option linter.unusedVariables false
set_option linter.unusedSimpArgs false
set_option linter.unusedVariables false
set_option linter.unusedSimpArgs false
open Go Go.Proofs
namespace Go.Proofs.YtchnlooenomfnaaGreatDoor
open Go.Shelf Go.RowKit Go.Lib
set_option maxRecDepth 100000 in
theorem ins_shift (b off n c i vb voff vc : Nat) (w W1 W2 : World) (hi : i < n) (hn63 : n ≤ 1000000000000) (hroom : n + 1 ≤ c)
    (hov : ∀ lb cb, (callFunc 167 #[.slice (some ⟨vb, voff, none⟩) 1 vc, .slice (some ⟨b, off + (i + 1) * 2, none⟩) lb cb]).run Tryz.prog w = .ok (.value (.bool false)) w)
    (hcp1 : ∀ ty dc sc, (Builtin.copy_ #[154, 154] ty #[.slice (some ⟨b, off + (i + 1) * 2, none⟩) (n - i) dc, .slice (some ⟨b, off + i * 2, none⟩) (n + 1 - i) sc]).run Tryz.prog w.drew = .ok (goInt (n - i)) W1)
    (hcp2 : ∀ ty dc, (Builtin.copy_ #[154, 154] ty #[.slice (some ⟨b, off + i * 2, none⟩) (n + 1 - i) dc, .slice (some ⟨vb, voff, none⟩) 1 vc]).run Tryz.prog W1 = .ok (goInt 1) W2) :
    Calls Tryz.prog 152 #[.slice (some ⟨b, off, none⟩) n c, .int .i64 i, .slice (some ⟨vb, voff, none⟩) 1 vc] w fun e w' =>
      e = .returned (.slice (some ⟨b, off, none⟩) (n + 1) c) ∧ w' = W2 := by
  have t3 := Tryz.underlying3; have a3 := Tryz.isAgg3; have z3 := Tryz.sizeOf3
  have t4 := Tryz.underlying4; have a4 := Tryz.isAgg4; have z4 := Tryz.sizeOf4
  have t154 := Tryz.underlying154; have a154 := Tryz.isAgg154; have z154 := Tryz.sizeOf154
  have z210 := Tryz.sizeOf210
  have u3 := run_underlying t3; have u4 := run_underlying t4; have u154 := run_underlying t154
  have mixed : Tryz.prog.follows .mixedOrders = true := by kernel_rfl
  have hz2 : ¬ ((i : Int) = (n : Int)) := by omega
  have hw1 : IntKind.i64.wrap ((i : Int) + 1) = (i : Int) + 1 := by rw [IntKind.wrap_i64]; omega
  have hw2 : IntKind.i64.wrap ((n : Int) + 1) = (n : Int) + 1 := by rw [IntKind.wrap_i64]; omega
  have hb1 : (0 : Int) ≤ (i : Int) + 1 := by omega
  have hin : i ≤ n := by omega
  have htn : ((i : Int) + 1).toNat = i + 1 := by omega
  have htn2 : ((n : Int) + 1).toNat = n + 1 := by omega
  have hb2 : ¬ (c = i + 1) := by omega
  have hb3 : (i : Int) ≤ (n : Int) + 1 := by omega
  have hb4 : ¬ (c = i) := by omega
  go_enter Tryz.func152, Tryz.ntmps152
  go_wp2_with (simp only [hov])
  go_region_law_o (refine step_copy_runI rfl _ _ 154 154 rfl _ _ (by simp [Act.eval, Act.put]) (by simp [Act.eval, Act.put]) (hcp1 _ _ _) ?_)
  go_wp2_with (at_builtin; refine wpList_copy_runI _ rfl _ _ 154 154 rfl _ _ rfl rfl (hcp2 _ _) ?_)
  go_ret
  exact ⟨rfl, rfl⟩
set_option maxRecDepth 100000 in
theorem ins_grow (b off n i vb voff vc G : Nat) (w W0 W1 W2 : World) (hi : i < n) (hn63 : n ≤ 1000000000000) (hG : n + 1 ≤ G)
    (happ : ∀ ty, (Builtin.append_ #[154, 3] ty #[.slice (some ⟨b, off, none⟩) i n, .int .i64 ((n : Int) + 1 - i)]).run Tryz.prog w = .ok (.slice (some ⟨w.heap.size, 0, none⟩) (n + 1) G) W0)
    (hcp1 : ∀ ty dc, (Builtin.copy_ #[154, 154] ty #[.slice (some ⟨w.heap.size, i * 2, none⟩) (n + 1 - i) dc, .slice (some ⟨vb, voff, none⟩) 1 vc]).run Tryz.prog W0 = .ok (goInt 1) W1)
    (hcp2 : ∀ ty dc sc, (Builtin.copy_ #[154, 154] ty #[.slice (some ⟨w.heap.size, (i + 1) * 2, none⟩) (n - i) dc, .slice (some ⟨b, off + i * 2, none⟩) (n - i) sc]).run Tryz.prog W1.drew = .ok (goInt (n - i)) W2) :
    Calls Tryz.prog 152 #[.slice (some ⟨b, off, none⟩) n n, .int .i64 i, .slice (some ⟨vb, voff, none⟩) 1 vc] w fun e w' =>
      e = .returned (.slice (some ⟨w.heap.size, 0, none⟩) (n + 1) G) ∧ w' = W2 := by
  have t3 := Tryz.underlying3; have a3 := Tryz.isAgg3; have z3 := Tryz.sizeOf3
  have t4 := Tryz.underlying4; have a4 := Tryz.isAgg4; have z4 := Tryz.sizeOf4
  have t154 := Tryz.underlying154; have a154 := Tryz.isAgg154; have z154 := Tryz.sizeOf154
  have z210 := Tryz.sizeOf210
  have u3 := run_underlying t3; have u4 := run_underlying t4; have u154 := run_underlying t154
  have mixed : Tryz.prog.follows .mixedOrders = true := by kernel_rfl
  have hz2 : ¬ ((i : Int) = (n : Int)) := by omega
  have hw1 : IntKind.i64.wrap ((i : Int) + 1) = (i : Int) + 1 := by rw [IntKind.wrap_i64]; omega
  have hw2 : IntKind.i64.wrap ((n : Int) + 1) = (n : Int) + 1 := by rw [IntKind.wrap_i64]; omega
  have hw3 : IntKind.i64.wrap ((n : Int) + 1 - (i : Int)) = (n : Int) + 1 - (i : Int) := by rw [IntKind.wrap_i64]; omega
  have hb1 : (0 : Int) ≤ (i : Int) + 1 := by omega
  have hin : i ≤ n := by omega
  have htn : ((i : Int) + 1).toNat = i + 1 := by omega
  have hb2 : ¬ (G = i + 1) := by omega
  have hb3 : (i : Int) ≤ (n : Int) + 1 := by omega
  have hb4 : ¬ (G = i) := by omega
  have hb5 : ¬ (n = i) := by omega
  have hb6 : (i : Int) + 1 ≤ (n : Int) + 1 := by omega
  go_enter Tryz.func152, Tryz.ntmps152
  go_wp2_with (at_builtin; refine Lib.wpList_append_run _ rfl _ _ _ _ rfl _ _ rfl rfl _ _ (happ _) ?_)
  go_wp2_with (at_builtin; refine wpList_copy_runI _ rfl _ _ 154 154 rfl _ _ rfl rfl (hcp1 _ _) ?_)
  go_region_law_o (refine step_copy_runI rfl _ _ 154 154 rfl _ _ (by simp [Act.eval, Act.put]) (by simp [Act.eval, Act.put]) (hcp2 _ _ _) ?_)
  go_wp2
  go_ret
  exact ⟨rfl, rfl⟩
end Go.Proofs.YtchnlooenomfnaaGreatDoor

set_option linter.unusedVariables false
set_option linter.unusedSimpArgs false
set_option linter.unusedVariables false
open Go Go.Am Go.Proofs
namespace Go.Proofs.YtchnlooenomfnaaGreatDoor
set_option maxRecDepth 100000
theorem copy_run2 {P : Program} {w w' : World} {t elem : TypeId} (ht : P.underlying t = some (.slice elem)) (hsz : ∀ w, (sizeOf elem).run P w = .ok 2 w) {d s : Addr} {dl dc sl sc k : Nat} {l : List Value} (hk : Nat.min sl dl = k) (hl : l.length = k * 2)
    (hs : ∀ j v, l[j]? = some v → w.cell? (s.add j) = some v) (hst : (storeCells d l).run P w = .ok () w') (ty : TypeId) :
    (Builtin.copy_ #[t, t] ty #[.slice (some d) dl dc, .slice (some s) sl sc]).run P w = .ok (goInt k) w' := by
  have h1 : (Builtin.firstCells 2 k (.slice (some s) sl sc)).run P w = .ok l.toArray w := run_firstCells_some w 2 k s sl sc l hl hs
  simp [Builtin.copy_, run_underlying ht, Builtin.lenOf, hsz, hk, h1, hst, Result.andThen]
theorem cell_row {w : World} {b : Nat} {c : Array Value} {t : TypeId} {f : Nat × Nat} (h : w.heap[b]? = some (.cells c t f)) (o : Nat) : w.cell? ⟨b, o, none⟩ = c[o]? := by
  unfold World.cell?
  rw [h]
  simp
noncomputable def insMid (args : List Value) (M : Mem) : Option (Value × Mem) :=
  match args with
  | [.slice (some a) n cap, .int .i64 i, .slice (some va) vn vc] =>
    match M.get a.block, M.get va.block with
    | some b, some vb => match Go.Am.range vb.cs va.off 2 with
      | some vcs =>
        bif Nat.beq vn 1 && Nat.beq cap n && Nat.beq a.off 0 && a.spot.isNone && va.spot.isNone && b.app && Nat.beq b.wf 0 && Nat.beq b.esz 2 && Nat.beq b.elem 210 && Nat.beq b.cs.length (2 * n) && decide (0 ≤ i) && decide (i < n) && Nat.ble n (2 ^ 30)
          && !Nat.beq a.block va.block && Nat.beq vb.esz 2 && vb.app && Nat.ble vb.wf va.off && b.cs.all isCell && vcs.all isCell then
          some (.slice (some ⟨M.next, 0, none⟩) (n + 1) (n + 1), (M.put a.block none).alloc { cs := b.cs.take (2 * i.toNat) ++ vcs ++ b.cs.drop (2 * i.toNat), elem := 210, esz := 2, wf := 0, app := true })
        else none
      | none => none
    | _, _ => none
  | _ => none
theorem insMid_inv {args : List Value} {M M' : Mem} {v : Value} (h : insMid args M = some (v, M')) : ∃ (a va : Addr) (n i vc : Nat) (b vb : ABlk) (vcs : List Value),
    args = [.slice (some a) n n, .int .i64 i, .slice (some va) 1 vc] ∧ M.get a.block = some b ∧ M.get va.block = some vb ∧ Go.Am.range vb.cs va.off 2 = some vcs ∧ a.off = 0 ∧ a.spot = none ∧ va.spot = none ∧ b.app = true ∧ b.wf = 0 ∧ b.esz = 2 ∧ b.elem = 210 ∧
    b.cs.length = 2 * n ∧ i < n ∧ n ≤ 2 ^ 30 ∧ a.block ≠ va.block ∧ vb.esz = 2 ∧ vb.app = true ∧ vb.wf ≤ va.off ∧ b.cs.all isCell = true ∧ vcs.all isCell = true ∧
    v = .slice (some ⟨M.next, 0, none⟩) (n + 1) (n + 1) ∧ M' = (M.put a.block none).alloc { cs := b.cs.take (2 * i) ++ vcs ++ b.cs.drop (2 * i), elem := 210, esz := 2, wf := 0, app := true } := by
  unfold insMid at h
  split at h
  case h_2 => cases h
  rename_i a n cap i va vn vc
  split at h
  case h_2 => cases h
  rename_i b vb hb hvb
  split at h
  case h_2 => cases h
  rename_i vcs hvcs
  generalize hq : (Nat.beq vn 1 && Nat.beq cap n && Nat.beq a.off 0 && a.spot.isNone && va.spot.isNone && b.app && Nat.beq b.wf 0 && Nat.beq b.esz 2 && Nat.beq b.elem 210 && Nat.beq b.cs.length (2 * n) && decide (0 ≤ i) && decide (i < n) && Nat.ble n (2 ^ 30)
          && !Nat.beq a.block va.block && Nat.beq vb.esz 2 && vb.app && Nat.ble vb.wf va.off && b.cs.all isCell && vcs.all isCell) = q at h
  cases q <;> simp only [cond_true, cond_false] at h
  · cases h
  simp only [Bool.and_eq_true, decide_eq_true_eq, Nat.beq_eq, Nat.ble_eq, Bool.not_eq_true', Option.isNone_iff_eq_none] at hq
  obtain ⟨⟨⟨⟨⟨⟨⟨⟨⟨⟨⟨⟨⟨⟨⟨⟨⟨⟨h1, h2⟩, h3⟩, h4⟩, h5⟩, h6⟩, h7⟩, h8⟩, h9⟩, h10⟩, h11⟩, h12⟩, h13⟩, h14⟩, h15⟩, h16⟩, h17⟩, h18⟩, h19⟩ := hq
  simp only [Option.some.injEq, Prod.mk.injEq] at h
  obtain ⟨rfl, rfl⟩ := h
  subst h1; subst h2
  obtain ⟨m, rfl⟩ : ∃ m : Nat, i = (m : Int) := ⟨i.toNat, by omega⟩
  refine ⟨a, va, cap, m, vc, b, vb, vcs, rfl, hb, hvb, hvcs, h3, h4, h5, h6, h7, h8, h9, h10, by omega, h13, fun hh => ?_, h15, h16, h17, h18, h19, rfl, ?_⟩
  · rw [hh] at h14; simp at h14
  · simp
theorem range_get {l r : List Value} {o k : Nat} (h : Go.Am.range l o k = some r) : r.length = k ∧ ∀ j v, r[j]? = some v → l[o + j]? = some v :=
  ⟨(takeN_spec h).2, fun j v hj => (takeN_drop_get h j v hj).1⟩
theorem part_get (c : Array Value) (o k : Nat) (h : o + k ≤ c.size) : ((c.toList.drop o).take k).length = k ∧ ∀ j, j < k → ((c.toList.drop o).take k)[j]? = c[o + j]? := by
  refine ⟨by simp; omega, fun j hj => ?_⟩
  rw [List.getElem?_take, if_pos hj, List.getElem?_drop]
  simp
end Go.Proofs.YtchnlooenomfnaaGreatDoor

set_option linter.unusedVariables false
set_option linter.unusedSimpArgs false
set_option linter.unusedVariables false
open Go Go.Am Go.Proofs
namespace Go.Proofs.YtchnlooenomfnaaGreatDoor
set_option maxRecDepth 100000
theorem isCell_part {φ : Emb} {cs : List Value} (hc : cs.all isCell = true) {l : List Value} (h : ∀ (j : Nat) (v' : Value), l[j]? = some v' → ∃ v, v ∈ cs ∧ VRel φ v v') : l.all isCell = true := by
  rw [List.all_eq_true]
  intro v' hv'
  obtain ⟨j, hj⟩ := List.getElem?_of_mem hv'
  obtain ⟨v, h1, h2⟩ := h j v' hj
  rw [h2.isCell]
  exact List.all_eq_true.1 hc v h1
theorem mid_get {l v : List Value} {i n : Nat} (hl : l.length = 2 * n) (hv : v.length = 2) (hi : i ≤ n) (j : Nat) : (l.take (2 * i) ++ v ++ l.drop (2 * i))[j]? = if j < 2 * i then l[j]? else if j < 2 * i + 2 then v[j - 2 * i]? else l[j - 2]? := by
  have h1 : (l.take (2 * i)).length = 2 * i := by rw [List.length_take]; omega
  by_cases h : j < 2 * i
  · rw [if_pos h, List.append_assoc, List.getElem?_append_left (by omega), List.getElem?_take, if_pos h]
  · rw [if_neg h]
    by_cases h2 : j < 2 * i + 2
    · rw [if_pos h2, List.append_assoc, List.getElem?_append_right (by omega), List.getElem?_append_left (by omega), h1]
    · rw [if_neg h2, List.getElem?_append_right (by simp; omega), List.getElem?_drop]
      congr 1
      simp only [List.length_append, h1, hv]
      omega
theorem shift_ok {GL : List Nat} {B : Bd} {φ : Emb} {M : Mem} {w : World} (hR : Rel Tryz.prog GL B φ M w) {a va : Addr} {n i : Nat} {b vb : ABlk} {vcs : List Value} (hb : M.get a.block = some b) (hvb : M.get va.block = some vb) (hvcs : Go.Am.range vb.cs va.off 2 = some vcs)
    (happ : b.app = true) (hwf : b.wf = 0) (hesz : b.esz = 2) (helem : b.elem = 210) (hlen : b.cs.length = 2 * n) (hi : i < n) (hn : n ≤ 2 ^ 30) (hvesz : vb.esz = 2) (hvapp : vb.app = true) (hvwf : vb.wf ≤ va.off)
    (hbc : b.cs.all isCell = true) (hvc : vcs.all isCell = true) (hne : a.block ≠ va.block) (hfresh : φ M.next = none)
    {e ve : Ent} (he : φ a.block = some e) (hve : φ va.block = some ve) {cap' vcap' : Nat} (hcap : n + 1 ≤ cap') (htot : cap' * e.esz ≤ e.tot) (hvtot : va.off + 1 * ve.esz ≤ ve.tot) :
    Calls Tryz.prog 152 #[.slice (some ⟨e.block, e.base, none⟩) n cap', .int .i64 i, .slice (some ⟨ve.block, ve.base + va.off, none⟩) 1 vcap'] w fun ee w' =>
      ∃ φ', ee = .returned (.slice (some ⟨e.block, e.base, none⟩) (n + 1) cap') ∧ φ' M.next = some e ∧ Post Tryz.prog GL B φ φ' M ((M.put a.block none).alloc { cs := b.cs.take (2 * i) ++ vcs ++ b.cs.drop (2 * i), elem := 210, esz := 2, wf := 0, app := true }) [a.block] w w' := by
  obtain ⟨e1, he1, hr⟩ := hR.blk _ _ hb
  rw [he] at he1; cases he1
  obtain ⟨ve1, hve1, hrv⟩ := hR.blk _ _ hvb
  rw [hve] at hve1; cases hve1
  obtain ⟨c, lo, hi', k1, k2, k3, k4⟩ := hr.cells
  obtain ⟨cv, vlo, vhi, u1, u2, u3, u4⟩ := hrv.cells
  have hee : e.esz = 2 := hr.esz.trans hesz
  have hvee : ve.esz = 2 := hrv.esz.trans hvesz
  rw [hee] at htot
  rw [hvee] at hvtot
  have hkne : e.block ≠ ve.block := (hR.sep _ _ _ _ _ _ hne hb hvb (.inl happ) he hve).ne0 hwf
  obtain ⟨r1, r2⟩ := range_get hvcs
  have hcs : c.size = e.base + e.tot := k2
  have hvs : cv.size = ve.base + ve.tot := u2
  let k := e.block
  let T := (c.toList.drop (e.base + i * 2)).take ((n - i) * 2)
  let V := (cv.toList.drop (ve.base + va.off)).take 2
  obtain ⟨t1, t2⟩ := part_get c (e.base + i * 2) ((n - i) * 2) (by omega)
  obtain ⟨v1, v2⟩ := part_get cv (ve.base + va.off) 2 (by omega)
  have hTc : T.all isCell = true := isCell_part (φ := φ) hbc fun j v' hj => by
    have hlt : j < (n - i) * 2 := by
      rcases Nat.lt_or_ge j ((n - i) * 2) with h | h
      · exact h
      · rw [List.getElem?_eq_none (by show T.length ≤ j; rw [t1]; exact h)] at hj; cases hj
    rw [t2 j hlt] at hj
    obtain ⟨v, hv⟩ : ∃ v, b.cs[i * 2 + j]? = some v := ⟨_, List.getElem?_eq_getElem (by omega)⟩
    obtain ⟨u, q1, q2⟩ := k3 _ _ hv
    rw [show e.base + (i * 2 + j) = e.base + i * 2 + j by omega, hj] at q1
    cases q1
    exact ⟨v, List.mem_of_getElem? hv, q2⟩
  have hV : ∀ j v, vcs[j]? = some v → ∃ v', V[j]? = some v' ∧ VRel φ v v' := fun j v hj => by
    have hlt : j < 2 := by
      rcases Nat.lt_or_ge j 2 with h | h
      · exact h
      · rw [List.getElem?_eq_none (by omega)] at hj; cases hj
    obtain ⟨u, q1, q2⟩ := u3 _ _ (r2 j v hj)
    exact ⟨u, by show ((cv.toList.drop (ve.base + va.off)).take 2)[j]? = _; rw [v2 j hlt, ← q1]; congr 1; omega, q2⟩
  have hVc : V.all isCell = true := isCell_part (φ := φ) hvc fun j v' hj => by
    have hlt : j < 2 := by
      rcases Nat.lt_or_ge j 2 with h | h
      · exact h
      · rw [List.getElem?_eq_none (by show V.length ≤ j; rw [v1]; exact h)] at hj; cases hj
    obtain ⟨v, hv⟩ : ∃ v, vcs[j]? = some v := ⟨_, List.getElem?_eq_getElem (by omega)⟩
    obtain ⟨u, q1, q2⟩ := hV j v hv
    rw [hj] at q1; cases q1
    exact ⟨v, List.mem_of_getElem? hv, q2⟩
  let R1 := splice c.toList (e.base + (i + 1) * 2) T
  let R2 := splice R1 (e.base + i * 2) V
  let W1 := setRow w.drew k (.cells R1.toArray b.elem (lo, hi'))
  let W2 := setRow W1 k (.cells R2.toArray b.elem (lo, hi'))
  have hkl : k < w.heap.size := hr.lt
  have nofr : ∀ j, e.base ≤ j → j < e.base + e.tot → ¬ (lo ≤ j ∧ j < hi') := fun j h1 h2 => by
    have := k4 (.inl happ) (j - e.base) (by omega) (Nat.lt_of_lt_of_le (by omega) (le_lim b.esz e.tot))
    rw [show e.base + (j - e.base) = j by omega] at this
    exact this
  have hR1l : R1.length = c.size := by simp [R1, splice_length]
  have s1 : (storeCells ⟨k, e.base + (i + 1) * 2, none⟩ T).run Tryz.prog w.drew = .ok () W1 := by
    have := storeCells_run (P := Tryz.prog) (l := T) (i := 0) (w := w.drew) (a := ⟨k, e.base + (i + 1) * 2, none⟩) (k := k) k1 rfl rfl (by simp only [T, t1]; omega) (fun j h1 h2 => nofr j (by simp only at h1; omega) (by simp only [T, t1] at h2; omega)) hTc
    simpa using this
  have hW1 : ∀ j, W1.heap[j]? = if k = j then some (.cells R1.toArray b.elem (lo, hi')) else w.heap[j]? := fun j => by
    show (setRow w.drew k _).heap[j]? = _
    rw [heap_setRow]
    by_cases hj : k = j
    · rw [if_pos hj, if_pos hj, if_pos (show k < w.drew.heap.size from hkl)]
    · rw [if_neg hj, if_neg hj]; rfl
  have hW2 : ∀ j, W2.heap[j]? = if k = j then some (.cells R2.toArray b.elem (lo, hi')) else w.heap[j]? := fun j => by
    show (setRow W1 k _).heap[j]? = _
    rw [heap_setRow]
    by_cases hj : k = j
    · rw [if_pos hj, if_pos hj, if_pos (by show k < (w.heap.setIfInBounds k _).size; simpa using hkl)]
    · rw [if_neg hj, if_neg hj, hW1, if_neg hj]
  have s2 : (storeCells ⟨k, e.base + i * 2, none⟩ V).run Tryz.prog W1 = .ok () W2 := by
    have := storeCells_run (P := Tryz.prog) (l := V) (i := 0) (w := W1) (a := ⟨k, e.base + i * 2, none⟩) (k := k) (by rw [hW1, if_pos rfl]) rfl rfl (by simp only [V, v1, List.size_toArray, hR1l]; omega) (fun j h1 h2 => nofr j (by simp only at h1; omega) (by simp only [V, v1] at h2; omega)) hVc
    simpa using this
  have hcp1 := fun ty dc sc => copy_run2 (P := Tryz.prog) (w := w.drew) (t := 154) (elem := 210) Tryz.underlying154 Tryz.sizeOf210 (d := ⟨k, e.base + (i + 1) * 2, none⟩) (s := ⟨k, e.base + i * 2, none⟩) (dl := n - i) (dc := dc) (sl := n + 1 - i) (sc := sc) (k := n - i) (by simp only [Nat.min_def]; split <;> omega) t1
    (fun j v hj => by
      have hlt : j < (n - i) * 2 := by
        rcases Nat.lt_or_ge j ((n - i) * 2) with h | h
        · exact h
        · rw [List.getElem?_eq_none (by rw [t1]; exact h)] at hj; cases hj
      rw [Addr.add_lit, cell_row (w := w.drew) k1, ← t2 j hlt]; exact hj) s1 ty
  have hcp2 := fun ty dc => copy_run2 (P := Tryz.prog) (w := W1) (t := 154) (elem := 210) Tryz.underlying154 Tryz.sizeOf210 (d := ⟨k, e.base + i * 2, none⟩) (s := ⟨ve.block, ve.base + va.off, none⟩) (dl := n + 1 - i) (dc := dc) (sl := 1) (sc := vcap') (k := 1) (by simp only [Nat.min_def]; split <;> omega) v1
    (fun j v hj => by
      have hlt : j < 2 := by
        rcases Nat.lt_or_ge j 2 with h | h
        · exact h
        · rw [List.getElem?_eq_none (by rw [v1]; exact h)] at hj; cases hj
      rw [Addr.add_lit, cell_row (w := W1) (by rw [hW1, if_neg hkne]; exact u1), ← v2 j hlt]; exact hj) s2 ty
  have fz : ∀ j, ve.base + vb.wf ≤ j → j < ve.base + lim 2 ve.tot → w.frozen? ⟨ve.block, j, none⟩ = false := fun j h1 h2 => by
    have := u4 (.inl hvapp) (j - ve.base) (by omega) (by rw [hvesz]; omega)
    rw [show ve.base + (j - ve.base) = j by omega] at this
    unfold World.frozen?
    rw [u1]
    simp only [Bool.and_eq_false_iff, decide_eq_false_iff_not]
    omega
  have l2 : lim 2 ve.tot = ve.tot + 1 := rfl
  have hov : ∀ lb cb, (callFunc 167 #[.slice (some ⟨ve.block, ve.base + va.off, none⟩) 1 vcap', .slice (some ⟨k, e.base + (i + 1) * 2, none⟩) lb cb]).run Tryz.prog w = .ok (.value (.bool false)) w := fun lb cb => by
    rw [run_callFunc_extern Tryz.func167 (by kernel_rfl) (by kernel_rfl) (by kernel_rfl) (e := Extern.SlicesOverlaps.overlaps #[154, 154] #[4]) (by kernel_rfl),
      Lib.run_overlaps_apart w 154 4 210 Tryz.underlying154 2 Tryz.sizeOf210 ⟨ve.block, ve.base + va.off, none⟩ ⟨k, e.base + (i + 1) * 2, none⟩ 1 vcap' lb cb (fun hh => hkne hh.symm) vb.elem b.elem cv.size c.size
        (by unfold World.shape?; rw [u1]) (by unfold World.shape?; rw [k1]) (by omega) (fz _ (by omega) (by omega)) (fz _ (by omega) (by omega))]
    rfl
  have hcast : ((n - i : Nat) : Int) = (n : Int) - (i : Int) := by omega
  have hcalls := ins_shift k e.base n cap' i ve.block (ve.base + va.off) vcap' w W1 W2 hi (by omega) hcap hov (fun ty dc sc => by rw [← hcast]; exact hcp1 ty dc sc) (fun ty dc => hcp2 ty dc)
  refine hcalls.mono fun ee w' hx => ?_
  obtain ⟨h1, h2⟩ := hx
  subst h2
  have hin1 : e.base + (i + 1) * 2 + T.length ≤ c.toList.length := by simp only [T, t1, Array.length_toList]; omega
  have hin2 : e.base + i * 2 + V.length ≤ R1.length := by simp only [V, v1, hR1l]; omega
  have hR2g : ∀ j, R2.toArray[j]? = if e.base + i * 2 ≤ j ∧ j < e.base + i * 2 + 2 then V[j - (e.base + i * 2)]? else if e.base + (i + 1) * 2 ≤ j ∧ j < e.base + (i + 1) * 2 + (n - i) * 2 then T[j - (e.base + (i + 1) * 2)]? else c[j]? := fun j => by
    simp only [List.getElem?_toArray, R2]
    rw [splice_get _ _ _ _ hin2, splice_get _ _ _ _ hin1]
    simp only [show V.length = 2 from v1, show T.length = (n - i) * 2 from t1]
    simp
  have hR2l : R2.toArray.size = c.size := by simp [R2, splice_length, hR1l]
  obtain ⟨φ', p1, p2⟩ := hR.replace (w' := W2) hfresh hb he happ none { cs := b.cs.take (2 * i) ++ vcs ++ b.cs.drop (2 * i), elem := 210, esz := 2, wf := 0, app := true } e
    ⟨hee, ⟨R2.toArray, lo, hi', by rw [hW2, if_pos rfl, helem], by rw [hR2l]; exact k2, fun j v hj => by
      rw [mid_get hlen r1 (by omega)] at hj
      rw [hR2g]
      by_cases q1 : j < 2 * i
      · rw [if_pos q1] at hj
        rw [if_neg (by omega), if_neg (by omega)]
        exact k3 j v hj
      · rw [if_neg q1] at hj
        by_cases q2 : j < 2 * i + 2
        · rw [if_pos q2] at hj
          rw [if_pos (by omega), show e.base + j - (e.base + i * 2) = j - 2 * i by omega]
          exact hV _ v hj
        · rw [if_neg q2] at hj
          have hlt : j - 2 < b.cs.length := by
            rcases Nat.lt_or_ge (j - 2) b.cs.length with h | h
            · exact h
            · rw [List.getElem?_eq_none h] at hj; cases hj
          rw [if_neg (by omega), if_pos (by omega), show T[e.base + j - (e.base + (i + 1) * 2)]? = c[e.base + i * 2 + (e.base + j - (e.base + (i + 1) * 2))]? from t2 _ (by omega), show e.base + i * 2 + (e.base + j - (e.base + (i + 1) * 2)) = e.base + (j - 2) by omega]
          exact k3 _ v hj, fun _ j q1 q2 => k4 (.inl happ) j (by omega) (by rw [hesz]; exact q2)⟩, by simp [hlen, r1]; omega, fun _ => hr.own (.inl happ), (fun q _ => by cases q), real_of (b := b) (get_nm hb) happ (by rw [hesz]; exact hee)⟩
    (fun s hs => by cases hs) (fun h0 => by omega)
    (fun j hj hne => by rw [hW2, if_neg (fun hh => hne hh.symm)])
    (fun i' b' e' hii hb' he' hbe happ' hro hle => by
      obtain ⟨e2, he2, hr2⟩ := hR.blkA _ _ hb'
      rw [he'] at he2; cases he2
      exact (hr2.ro happ').under happ' hro k1 hbe.symm (c' := R2.toArray) (lo' := lo) (hi' := hi') (by rw [hW2, if_pos rfl]) hR2l fun j hj => by
        rw [hR2g, if_neg (by omega), if_neg (by omega)])
    (by show w.heap.size ≤ ((w.heap.setIfInBounds k _).setIfInBounds k _).size; simp) rfl rfl rfl (.inl rfl)
  exact ⟨φ', h1, p1, p2⟩
end Go.Proofs.YtchnlooenomfnaaGreatDoor

set_option linter.unusedVariables false
set_option linter.unusedSimpArgs false
set_option linter.unusedVariables false
open Go Go.Am Go.Proofs Go.RowKit
namespace Go.Proofs.YtchnlooenomfnaaGreatDoor
set_option maxRecDepth 100000
set_option maxHeartbeats 2000000 in
theorem grow_ok {GL : List Nat} {B : Bd} {φ : Emb} {M : Mem} {w : World} (hR : Rel Tryz.prog GL B φ M w) {a va : Addr} {n i : Nat} {b vb : ABlk} {vcs : List Value} (hb : M.get a.block = some b) (hvb : M.get va.block = some vb) (hvcs : Go.Am.range vb.cs va.off 2 = some vcs)
    (happ : b.app = true) (hwf : b.wf = 0) (hesz : b.esz = 2) (helem : b.elem = 210) (hlen : b.cs.length = 2 * n) (hi : i < n) (hn : n ≤ 2 ^ 30) (hvesz : vb.esz = 2) (hvapp : vb.app = true) (hvwf : vb.wf ≤ va.off)
    (hbc : b.cs.all isCell = true) (hvc : vcs.all isCell = true) (hne : a.block ≠ va.block) (hfresh : φ M.next = none)
    {e ve : Ent} (he : φ a.block = some e) (hve : φ va.block = some ve) {vcap' : Nat} (htot : n * e.esz ≤ e.tot) (hvtot : va.off + 1 * ve.esz ≤ ve.tot) :
    Calls Tryz.prog 152 #[.slice (some ⟨e.block, e.base, none⟩) n n, .int .i64 i, .slice (some ⟨ve.block, ve.base + va.off, none⟩) 1 vcap'] w fun ee w' =>
      ∃ φ' G tot, ee = .returned (.slice (some ⟨w.heap.size, 0, none⟩) (n + 1) G) ∧ n + 1 ≤ G ∧ G * 2 ≤ tot ∧ φ' M.next = some ⟨w.heap.size, 0, tot, 2⟩ ∧ Post Tryz.prog GL B φ φ' M ((M.put a.block none).alloc { cs := b.cs.take (2 * i) ++ vcs ++ b.cs.drop (2 * i), elem := 210, esz := 2, wf := 0, app := true }) [a.block] w w' := by
  obtain ⟨e1, he1, hr⟩ := hR.blk _ _ hb
  rw [he] at he1; cases he1
  obtain ⟨ve1, hve1, hrv⟩ := hR.blk _ _ hvb
  rw [hve] at hve1; cases hve1
  obtain ⟨c, lo, hi', k1, k2, k3, k4⟩ := hr.cells
  obtain ⟨cv, vlo, vhi, u1, u2, u3, u4⟩ := hrv.cells
  have hee : e.esz = 2 := hr.esz.trans hesz
  have hvee : ve.esz = 2 := hrv.esz.trans hvesz
  rw [hee] at htot
  rw [hvee] at hvtot
  have hkne : e.block ≠ ve.block := (hR.sep _ _ _ _ _ _ hne hb hvb (.inl happ) he hve).ne0 hwf
  obtain ⟨r1, r2⟩ := range_get hvcs
  have hcs : c.size = e.base + e.tot := k2
  have hvs : cv.size = ve.base + ve.tot := u2
  let k := e.block
  let T := (c.toList.drop (e.base + i * 2)).take ((n - i) * 2)
  let V := (cv.toList.drop (ve.base + va.off)).take 2
  obtain ⟨t1, t2⟩ := part_get c (e.base + i * 2) ((n - i) * 2) (by omega)
  obtain ⟨v1, v2⟩ := part_get cv (ve.base + va.off) 2 (by omega)
  have hTc : T.all isCell = true := isCell_part (φ := φ) hbc fun j v' hj => by
    have hlt : j < (n - i) * 2 := by
      rcases Nat.lt_or_ge j ((n - i) * 2) with h | h
      · exact h
      · rw [List.getElem?_eq_none (by show T.length ≤ j; rw [t1]; exact h)] at hj; cases hj
    rw [t2 j hlt] at hj
    obtain ⟨v, hv⟩ : ∃ v, b.cs[i * 2 + j]? = some v := ⟨_, List.getElem?_eq_getElem (by omega)⟩
    obtain ⟨u, q1, q2⟩ := k3 _ _ hv
    rw [show e.base + (i * 2 + j) = e.base + i * 2 + j by omega, hj] at q1
    cases q1
    exact ⟨v, List.mem_of_getElem? hv, q2⟩
  have hV : ∀ j v, vcs[j]? = some v → ∃ v', V[j]? = some v' ∧ VRel φ v v' := fun j v hj => by
    have hlt : j < 2 := by
      rcases Nat.lt_or_ge j 2 with h | h
      · exact h
      · rw [List.getElem?_eq_none (by omega)] at hj; cases hj
    obtain ⟨u, q1, q2⟩ := u3 _ _ (r2 j v hj)
    exact ⟨u, by show ((cv.toList.drop (ve.base + va.off)).take 2)[j]? = _; rw [v2 j hlt, ← q1]; congr 1; omega, q2⟩
  have hVc : V.all isCell = true := isCell_part (φ := φ) hvc fun j v' hj => by
    have hlt : j < 2 := by
      rcases Nat.lt_or_ge j 2 with h | h
      · exact h
      · rw [List.getElem?_eq_none (by show V.length ≤ j; rw [v1]; exact h)] at hj; cases hj
    obtain ⟨v, hv⟩ : ∃ v, vcs[j]? = some v := ⟨_, List.getElem?_eq_getElem (by omega)⟩
    obtain ⟨u, q1, q2⟩ := hV j v hv
    rw [hj] at q1; cases q1
    exact ⟨v, List.mem_of_getElem? hv, q2⟩
  let k0 := w.heap.size
  let O := (c.toList.drop e.base).take (i * 2)
  obtain ⟨o1, o2⟩ := part_get c e.base (i * 2) (by omega)
  obtain ⟨i0, hi0, hz0, hzs, hzb⟩ := info_parts (show (Tryz.prog.info? 210).map (fun i => (i.zero, i.size, i.bytes)) = some (some (.agg #[.slice none 0 0, .int .i64 0]), 2, 32) by kernel_rfl)
  let Z : Value := .agg #[.slice none 0 0, .int .i64 0]
  have hZ : ∀ m, (Builtin.zeroCells Z.cells m).size = m * 2 := fun m => by rw [zeroCells_size]; rfl
  have hkk : i + (n + 1 - i) = n + 1 := by omega
  let G := grownCap w (n + 1) n 210
  have hG : n + 1 ≤ G := by show n + 1 ≤ (Question.appendCap (n + 1) n 210).cut _; show n + 1 ≤ n + 1 + _; omega
  let ROW : Array Value := O.toArray ++ Builtin.zeroCells Z.cells (n + 1 - i) ++ Builtin.zeroCells Z.cells (G - (n + 1))
  have hROW : ROW.size = G * 2 := by
    have ho : O.toArray.size = i * 2 := by rw [List.size_toArray]; exact o1
    simp only [ROW, Array.size_append, hZ, ho]; omega
  let W0 := w.drew.alloc (.cells ROW 210 (0, 0))
  have happ' : ∀ ty, (Builtin.append_ #[154, 3] ty #[.slice (some ⟨e.block, e.base, none⟩) i n, .int .i64 ((n : Int) + 1 - i)]).run Tryz.prog w = .ok (.slice (some ⟨w.heap.size, 0, none⟩) (n + 1) G) W0 := fun ty => by
    have hold : (Builtin.firstCells i0.size i (.slice (some ⟨e.block, e.base, none⟩) i n)).run Tryz.prog w.drew = .ok O.toArray w.drew := by
      rw [hzs]
      exact run_firstCells_some w.drew 2 i _ i n O o1 fun j v hj => by
        have hlt : j < i * 2 := by
          rcases Nat.lt_or_ge j (i * 2) with h | h
          · exact h
          · rw [List.getElem?_eq_none (by rw [o1]; exact h)] at hj; cases hj
        rw [Addr.add_lit, cell_row (w := w.drew) k1, ← o2 j hlt]; exact hj
    have h := Lib.run_append_grow_zeros w 154 3 ty 210 i0 _ .i64 .i64 Tryz.underlying154 Tryz.underlying3 hi0 hz0 (some ⟨e.block, e.base, none⟩) i n O hold (n + 1 - i) (by omega) (by omega) (by omega) (by omega) (by rw [hzb]; omega) (by rw [hzb, hkk]; exact growslice_fits (by omega) (by omega))
    rw [hkk] at h
    have hc : ((n + 1 - i : Nat) : Int) = (n : Int) + 1 - i := by omega
    rw [hc] at h
    exact h
  have hsz0 : W0.heap.size = k0 + 1 := by show (w.heap.push _).size = _; simp [k0]
  have hn0 : W0.heap[k0]? = some (.cells ROW 210 (0, 0)) := heap_alloc_new w.drew _
  have hW0 : ∀ j, j < k0 → W0.heap[j]? = w.heap[j]? := fun j hj => heap_alloc_old w.drew _ hj
  let R1 := splice ROW.toList (i * 2) V
  let R2 := splice R1 ((i + 1) * 2) T
  have hR1l : R1.length = G * 2 := by simp only [R1, splice_length, Array.length_toList]; exact hROW
  let W1 := setRow W0 k0 (.cells R1.toArray 210 (0, 0))
  let W2 := setRow W1.drew k0 (.cells R2.toArray 210 (0, 0))
  have hW1 : ∀ j, W1.heap[j]? = if k0 = j then some (.cells R1.toArray 210 (0, 0)) else W0.heap[j]? := fun j => by
    show (setRow W0 k0 _).heap[j]? = _
    rw [heap_setRow]
    by_cases hj : k0 = j
    · rw [if_pos hj, if_pos hj, if_pos (by omega)]
    · rw [if_neg hj, if_neg hj]
  have hW2 : ∀ j, W2.heap[j]? = if k0 = j then some (.cells R2.toArray 210 (0, 0)) else W0.heap[j]? := fun j => by
    show (setRow W1.drew k0 _).heap[j]? = _
    rw [heap_setRow]
    have h1 : W1.drew.heap.size = k0 + 1 := by
      show (W0.heap.setIfInBounds k0 _).size = _
      simpa using hsz0
    by_cases hj : k0 = j
    · rw [if_pos hj, if_pos hj, if_pos (by omega)]
    · rw [if_neg hj, if_neg hj]
      show W1.heap[j]? = _
      rw [hW1, if_neg hj]
  have s1 : (storeCells ⟨k0, i * 2, none⟩ V).run Tryz.prog W0 = .ok () W1 := by
    have := storeCells_run (P := Tryz.prog) (l := V) (i := 0) (w := W0) (a := ⟨k0, i * 2, none⟩) (k := k0) hn0 rfl rfl (by simp only [V, v1]; omega) (fun j h1 h2 => by omega) hVc
    simpa using this
  have s2 : (storeCells ⟨k0, (i + 1) * 2, none⟩ T).run Tryz.prog W1.drew = .ok () W2 := by
    have := storeCells_run (P := Tryz.prog) (l := T) (i := 0) (w := W1.drew) (a := ⟨k0, (i + 1) * 2, none⟩) (k := k0) (c := R1.toArray) (t := 210) (lo := 0) (hi := 0) (by show W1.heap[k0]? = _; rw [hW1, if_pos rfl]) rfl rfl (by simp only [T, t1, List.size_toArray, hR1l]; omega) (fun j h1 h2 => by omega) hTc
    simpa using this
  have hklt : e.block < k0 := hr.lt
  have hvlt : ve.block < k0 := hrv.lt
  have hcp1 := fun ty dc => copy_run2 (P := Tryz.prog) (w := W0) (t := 154) (elem := 210) Tryz.underlying154 Tryz.sizeOf210 (d := ⟨k0, i * 2, none⟩) (s := ⟨ve.block, ve.base + va.off, none⟩) (dl := n + 1 - i) (dc := dc) (sl := 1) (sc := vcap') (k := 1) (by simp only [Nat.min_def]; split <;> omega) v1
    (fun j v hj => by
      have hlt : j < 2 := by
        rcases Nat.lt_or_ge j 2 with h | h
        · exact h
        · rw [List.getElem?_eq_none (by rw [v1]; exact h)] at hj; cases hj
      rw [Addr.add_lit, cell_row (w := W0) (by rw [hW0 _ hvlt]; exact u1), ← v2 j hlt]; exact hj) s1 ty
  have hcp2 := fun ty dc sc => copy_run2 (P := Tryz.prog) (w := W1.drew) (t := 154) (elem := 210) Tryz.underlying154 Tryz.sizeOf210 (d := ⟨k0, (i + 1) * 2, none⟩) (s := ⟨e.block, e.base + i * 2, none⟩) (dl := n - i) (dc := dc) (sl := n - i) (sc := sc) (k := n - i) (by simp only [Nat.min_def]; split <;> omega) t1
    (fun j v hj => by
      have hlt : j < (n - i) * 2 := by
        rcases Nat.lt_or_ge j ((n - i) * 2) with h | h
        · exact h
        · rw [List.getElem?_eq_none (by rw [t1]; exact h)] at hj; cases hj
      rw [Addr.add_lit, cell_row (w := W1.drew) (by show W1.heap[e.block]? = _; rw [hW1, if_neg (by omega), hW0 _ hklt]; exact k1), ← t2 j hlt]; exact hj) s2 ty
  have hcast : ((n - i : Nat) : Int) = (n : Int) - (i : Int) := by omega
  have hcalls := ins_grow e.block e.base n i ve.block (ve.base + va.off) vcap' G w W0 W1 W2 hi (by omega) hG happ' (fun ty dc => hcp1 ty dc) (fun ty dc sc => by rw [← hcast]; exact hcp2 ty dc sc)
  refine hcalls.mono fun ee w' hx => ?_
  obtain ⟨h1, h2⟩ := hx
  subst h2
  have hin1 : i * 2 + V.length ≤ ROW.toList.length := by simp only [V, v1, Array.length_toList]; omega
  have hin2 : (i + 1) * 2 + T.length ≤ R1.length := by simp only [T, t1, hR1l]; omega
  have hR2g : ∀ j, R2.toArray[j]? = if (i + 1) * 2 ≤ j ∧ j < (i + 1) * 2 + (n - i) * 2 then T[j - (i + 1) * 2]? else if i * 2 ≤ j ∧ j < i * 2 + 2 then V[j - i * 2]? else ROW[j]? := fun j => by
    simp only [List.getElem?_toArray, R2]
    rw [splice_get _ _ _ _ hin2, splice_get _ _ _ _ hin1]
    simp only [show V.length = 2 from v1, show T.length = (n - i) * 2 from t1]
    simp
  have hR2l : R2.toArray.size = G * 2 := by simp [R2, splice_length, hR1l]
  have hRO : ∀ j, j < i * 2 → ROW[j]? = c[e.base + j]? := fun j hj => by
    have ho : O.toArray.size = i * 2 := by rw [List.size_toArray]; exact o1
    simp only [ROW]
    rw [Array.append_assoc, Array.getElem?_append_left (by omega), ← o2 j hj]
    simp [O]
  obtain ⟨φ', p1, p2⟩ := hR.replace (w' := W2) hfresh hb he happ none { cs := b.cs.take (2 * i) ++ vcs ++ b.cs.drop (2 * i), elem := 210, esz := 2, wf := 0, app := true } ⟨k0, 0, G * 2, 2⟩
    ⟨rfl, ⟨R2.toArray, 0, 0, by rw [hW2, if_pos rfl], by rw [hR2l]; simp, fun j v hj => by
      rw [mid_get hlen r1 (by omega)] at hj
      simp only [Nat.zero_add]
      rw [hR2g]
      by_cases q1 : j < 2 * i
      · rw [if_pos q1] at hj
        rw [if_neg (by omega), if_neg (by omega), hRO j (by omega)]
        exact k3 j v hj
      · rw [if_neg q1] at hj
        by_cases q2 : j < 2 * i + 2
        · rw [if_pos q2] at hj
          rw [if_neg (by omega), if_pos (by omega), show j - i * 2 = j - 2 * i by omega]
          exact hV _ v hj
        · rw [if_neg q2] at hj
          have hlt : j - 2 < b.cs.length := by
            rcases Nat.lt_or_ge (j - 2) b.cs.length with h | h
            · exact h
            · rw [List.getElem?_eq_none h] at hj; cases hj
          rw [if_pos (by omega), show T[j - (i + 1) * 2]? = c[e.base + i * 2 + (j - (i + 1) * 2)]? from t2 _ (by omega), show e.base + i * 2 + (j - (i + 1) * 2) = e.base + (j - 2) by omega]
          exact k3 _ v hj, fun _ j q1 q2 => by omega⟩, by simp [hlen, r1]; omega, fun _ => hR.size _ (Nat.le_refl _), (fun q _ => by cases q), fun hx => by cases hx.1⟩
    (fun s hs => by cases hs) (fun h0 => by omega)
    (fun j hj hne => by rw [hW2, if_neg (by show ¬ w.heap.size = j; omega), hW0 j hj])
    (fun i' b' e' hii hb' he' hbe happ' hro hle => by
      obtain ⟨e2, he2, hr2⟩ := hR.blkA _ _ hb'
      rw [he'] at he2; cases he2
      exact (hr2.ro happ').keep (Emb.le_refl φ) (by rw [hbe, hW2, if_neg (by omega), hW0 _ hklt]))
    (by
      show w.heap.size ≤ ((W0.heap.setIfInBounds k0 _).setIfInBounds k0 _).size
      simp only [Array.size_setIfInBounds, hsz0]; omega) rfl rfl rfl (.inr (Nat.le_refl _))
  exact ⟨φ', G, G * 2, h1, hG, Nat.le_refl _, p1, p2⟩
end Go.Proofs.YtchnlooenomfnaaGreatDoor

set_option linter.unusedVariables false
set_option linter.unusedSimpArgs false
set_option linter.unusedVariables false
open Go Go.Am Go.Proofs
namespace Go.Proofs.YtchnlooenomfnaaGreatDoor
set_option maxRecDepth 100000
noncomputable def gIns (args : List Value) (M : Mem) : Option (Value × Mem) :=
  match insMid args M with
  | some r => some r
  | none => Go.Am.arun Tryz.prog [] noSpecs 300 152 args M
theorem mid_run {B : Bd} {args : List Value} {M M' : Mem} {v : Value} (h : insMid args M = some (v, M')) {φ : Emb} {w : World} (hR : Rel Tryz.prog [] B φ M w) (hG : Go.Am.Good φ M M') {args' : Array Value} (ha : LRel φ args args'.toList) :
    Calls Tryz.prog 152 args' w fun e w' => ∃ L φ' v', e = .returned v' ∧ M'.log = L ++ M.log ∧ Post Tryz.prog [] B φ φ' M M' L w w' ∧ VRel φ' v v' := by
  obtain ⟨a, va, n, i, vc, b, vb, vcs, rfl, hb, hvb, hvcs, hao, has, hvs, happ, hwf, hesz, helem, hlen, hi, hn, hne, hvesz, hvapp, hvwf, hbc, hvc, rfl, rfl⟩ := insMid_inv h
  have hfresh : φ M.next = none := hG _ (Nat.le_refl _) (Nat.lt_succ_self _)
  generalize hl : args'.toList = l' at ha
  cases ha with
  | cons h1 h2 => cases h2 with
    | cons h2 h3 => cases h3 with
      | cons h3 h4 =>
        cases h4
        rename_i s' i' v'
        obtain rfl : i' = .int .i64 (i : Int) := h2.int_inv
        obtain ⟨a', cap', rfl, s1, s2, s3, s4, e, he, s5⟩ := h1.slice_inv has
        obtain ⟨va', vcap', rfl, t1, t2, t3, t4, ve, hve, t5⟩ := h3.slice_inv hvs
        obtain ⟨e1, he1, hr⟩ := hR.blk _ _ hb
        rw [he] at he1; cases he1
        obtain ⟨ve1, hve1, hrv⟩ := hR.blk _ _ hvb
        rw [hve] at hve1; cases hve1
        have hee : e.esz = 2 := hr.esz.trans hesz
        obtain ⟨s6, s7, s8⟩ := s5.resolve_left (by omega)
        obtain ⟨t6, t7, t8⟩ := t5.resolve_left (by omega)
        have haa : a' = ⟨e.block, e.base, none⟩ := by
          cases a'
          simp only at s2 s6 s7
          rw [s2, s6, s7, hao, Nat.add_zero]
        have hvv : va' = ⟨ve.block, ve.base + va.off, none⟩ := by
          cases va'
          simp only at t2 t6 t7
          rw [t2, t6, t7]
        subst haa; subst hvv
        have harg : args' = #[.slice (some ⟨e.block, e.base, none⟩) n cap', .int .i64 i, .slice (some ⟨ve.block, ve.base + va.off, none⟩) 1 vcap'] := by
          apply Array.ext'
          rw [hl]
        subst harg
        rw [hao, Nat.zero_add] at s8
        have hvt : va.off + 1 * ve.esz ≤ ve.tot := Nat.le_trans (Nat.add_le_add_left (Nat.mul_le_mul_right _ t3) _) t8
        by_cases hc : n + 1 ≤ cap'
        · refine (shift_ok hR hb hvb hvcs happ hwf hesz helem hlen hi hn hvesz hvapp hvwf hbc hvc hne hfresh he hve (vcap' := vcap') hc s8 hvt).mono fun ee w' hx => ?_
          obtain ⟨φ', x1, x2, x3⟩ := hx
          exact ⟨_, φ', _, x1, rfl, x3, .slice ⟨rfl, rfl, hc, .inl rfl, e, x2, .inr ⟨rfl, by simp, by simpa using s8⟩⟩⟩
        · have hcn : cap' = n := by omega
          subst hcn
          refine (grow_ok hR hb hvb hvcs happ hwf hesz helem hlen hi hn hvesz hvapp hvwf hbc hvc hne hfresh he hve (vcap' := vcap') s8 hvt).mono fun ee w' hx => ?_
          obtain ⟨φ', G, tot, x1, x2, x3, x4, x5⟩ := hx
          exact ⟨_, φ', _, x1, rfl, x5, .slice ⟨rfl, rfl, x2, .inl rfl, _, x4, .inr ⟨rfl, by simp, by simpa using x3⟩⟩⟩
theorem okIns (B : Bd) : SpecOk Tryz.prog [] B 152 gIns := by
  have hA := SpecOk.arun (P := Tryz.prog) (GL := []) (B := B) noNumP mixedP SpecsOk.none 300 152
  refine ⟨fun args M v M' h => ?_, fun args M v M' h φ w hR hG args' ha => ?_⟩
  · unfold gIns at h
    split at h
    · rename_i r hm
      cases h
      obtain ⟨a, va, n, i, vc, b, vb, vcs, rfl, hb, _, _, _, _, _, _, _, _, _, _, _, _, _, _, _, _, _, _, rfl, rfl⟩ := insMid_inv hm
      exact ⟨_, (Abs.put M (get_spec.1 hb).1 none).trans (Abs.alloc _ _)⟩
    · exact hA.abs args M v M' h
  · unfold gIns at h
    split at h
    · rename_i r hm
      cases h
      exact mid_run hm hR hG ha
    · exact hA.run args M v M' h φ w hR hG args' ha
end Go.Proofs.YtchnlooenomfnaaGreatDoor

set_option linter.unusedVariables false
set_option linter.unusedSimpArgs false
open Go Go.Am Go.Proofs
namespace Go.Am
theorem Ev.ofTab {P : Program} {SP : Specs} (hN : noNum P) (hm : P.follows .mixedOrders = true) (hS : ∀ B, SpecsOk P [0] B SP) {n : Nat} {f : FuncId} {v : Value} {M1 : Mem} {tab : ABlk}
    (h : Go.Am.arun P [0] SP n f [] (startMem [(0, tab)] 1) = some (v, M1)) (hlog : M1.log.all (fun t => !(Nat.beq t 0)) = true) (hro : tab.app = false ∧ tab.wf = tab.cs.length) (hfl : flatL tab.cs = true) (hv : flat v = true) {M : Mem} (hM : M.get 0 = some tab) : Ev P [0] f [] M v M := by
  refine ⟨⟨[], Abs.refl M⟩, fun B φ w hR hG args' ha => ?_⟩
  have hget : ∀ id b, (startMem [(0, tab)] 1).getA id = some b → id = 0 ∧ b = tab := fun id b hb => by
    have := blkTree_mem (getA_spec.1 hb).2.2
    simpa using this
  obtain ⟨e, he, hr⟩ := hR.blk 0 tab hM
  obtain ⟨e', he', hg2, hg3⟩ := (hR.glob 0 (by simp)).2
  rw [he] at he'; cases he'
  let φ0 : Emb := fun id => if id = 0 then φ 0 else none
  have h0 : φ0 0 = some e := by show (if (0 : Nat) = 0 then φ 0 else none) = _; rw [if_pos rfl]; exact he
  have hnone : ∀ id, id ≠ 0 → φ0 id = none := fun id hid => if_neg hid
  have hown : ¬ (tab.app = true ∨ tab.wf < tab.cs.length) := fun hw => by
    rcases hw with hw | hw
    · rw [hro.1] at hw; cases hw
    · omega
  have hR0 : Rel P [0] B.flat φ0 (startMem [(0, tab)] 1) w := by
    refine ⟨fun id b hb => ?_, fun id1 id2 b1 b2 e1 e2 hne hb1 hb2 _ _ _ => ?_, fun g hg => ?_, fun k hk => Bd.flat_ok.2 (hR.size k hk), fun id b hb => (getA_spec.1 hb).1, fun x hx => by cases hx⟩
    · obtain ⟨rfl, rfl⟩ := hget id b hb
      obtain ⟨c, lo, hi, k1, k2, k3, k4⟩ := hr.cells
      exact ⟨e, h0, .inl ⟨hr.esz, ⟨c, lo, hi, k1, k2, fun j u hu => by
        obtain ⟨u', q1, q2⟩ := k3 j u hu
        have hfu := flat_of_get hfl hu
        obtain rfl := q2.of_flat hfu
        exact ⟨u', q1, VRel.refl_flat _ _ hfu⟩, k4⟩, hr.len, fun hw => absurd hw hown, hr.whole, hr.real⟩⟩
    · exact absurd ((hget _ _ hb1).1.trans (hget _ _ hb2).1.symm) hne
    · simp only [List.mem_cons, List.not_mem_nil, or_false] at hg
      subst hg
      exact ⟨Nat.zero_lt_one, e, h0, hg2, hg3⟩
  have hG0 : Good φ0 (startMem [(0, tab)] 1) M1 := fun id h1 _ => hnone id (by have : 1 ≤ id := h1; omega)
  have e0 : args' = #[] := by
    have := LRel.length ha
    cases args'
    simp_all
  subst e0
  refine (arun_calls hN hm (hS B.flat) n h hR0 hG0 #[] .nil).mono fun ee w' ⟨L, φ', v', x1, x2, x3, x4⟩ => ?_
  obtain rfl := x4.of_flat hv
  have hkeep : ∀ k, k < w.heap.size → w'.heap[k]? = w.heap[k]? := fun k hk => by
    rcases x3.fr.block k hk with q | ⟨_, t, ht, et, q1, _⟩
    · exact q
    · by_cases ht0 : t = 0
      · subst ht0
        have h9 := List.all_eq_true.1 hlog 0 (by rw [x2]; exact List.mem_append_left _ ht)
        exact absurd h9 (by decide)
      · rw [hnone t ht0] at q1; cases q1
  exact ⟨[], φ, _, x1, rfl, ⟨fun _ _ => rfl, Nat.le_refl _, hR.grow x3.fr.size hkeep, ⟨x3.fr.os, x3.fr.tape, x3.fr.output, x3.fr.size, fun k hk => .inl (hkeep k hk)⟩, fun id e h1 h2 => by omega, fun t ht => by cases ht⟩, VRel.refl_flat _ _ hv⟩
end Go.Am
namespace Go.Proofs.YtchnlooenomfnaaGreatDoor
set_option maxRecDepth 100000
noncomputable def SPK : Specs := specs [(123, rrun Tryz.prog [0] noSpecs 300 300 123), (152, gIns)]
theorem specsK (B : Bd) : SpecsOk Tryz.prog [0] B SPK := specs_ok fun p hp => by
  simp only [List.mem_cons, List.not_mem_nil, or_false] at hp
  rcases hp with rfl | rfl
  · exact rrun_ok noNumP mixedP (fun B => SpecsOk.none) noSpecsB 300 300 123
  · exact (okIns B).gl
theorem knownRun (e : TypeId) : (Go.Am.arun Tryz.prog [0] SPK 300 15 [] (memT e)).map (fun r => (r.1, r.2.log.all (fun t => !(Nat.beq t 0)))) = some (.bool true, true) := by kernel_rfl
theorem con15 {e : TypeId} {M : Mem} (hM : M.get 0 = some (tabB e)) : Ev Tryz.prog [0] 15 [] M (.bool true) M := by
  cases hk : Go.Am.arun Tryz.prog [0] SPK 300 15 [] (memT e) with
  | none => have := knownRun e; rw [hk] at this; cases this
  | some r =>
    obtain ⟨v, M1⟩ := r
    have := knownRun e
    rw [hk] at this
    simp only [Option.map_some, Option.some.injEq, Prod.mk.injEq] at this
    obtain ⟨rfl, h2⟩ := this
    exact Ev.ofTab noNumP mixedP specsK hk h2 ⟨rfl, rfl⟩ (by kernel_rfl) rfl hM
end Go.Proofs.YtchnlooenomfnaaGreatDoor
