/-
  Package adj: each of its laws for every argument; no conditions. The last text states which.
-/
import Derived.Test.YtipnhelkganmdaaGAmPw
import Derived.Test.YtipnhelkganmdaaGAmBk
noncomputable section
namespace Go.Am
open Go
set_option linter.unusedVariables false
variable {P : Program} {GL : List Nat}
def cut (b : Nat) (M : Mem) : Mem := ⟨M.blks, b, M.hide, M.log⟩
theorem cut_get_lt {b id : Nat} {M : Mem} (hb : b ≤ M.next) (h : id < b) : (cut b M).get id = M.get id := by
  cases hg : M.get id with
  | some k =>
    obtain ⟨h1, h2, h3, h4⟩ := get_spec.1 hg
    exact get_spec.2 ⟨h, h2, h3, h4⟩
  | none =>
    cases hc : (cut b M).get id with
    | none => rfl
    | some k =>
      obtain ⟨h1, h2, h3, h4⟩ := get_spec.1 hc
      have : M.get id = some k := get_spec.2 ⟨Nat.lt_of_lt_of_le h1 hb, h2, h3, h4⟩
      rw [hg] at this; cases this
theorem cut_get {b id : Nat} {M : Mem} {k : ABlk} (hb : b ≤ M.next) : (cut b M).get id = some k ↔ id < b ∧ M.get id = some k := by
  constructor
  · intro h
    have hl : id < b := (get_spec.1 h).1
    rw [cut_get_lt hb hl] at h
    exact ⟨hl, h⟩
  · rintro ⟨h1, h2⟩
    rw [cut_get_lt hb h1]; exact h2
theorem Ext.cut {b : Nat} {M : Mem} (hb : b ≤ M.next) : Ext (Go.Am.cut b M) M := ⟨hb, rfl, fun _ hid => (cut_get_lt hb hid).symm, [], rfl, fun t h => by cases h⟩
theorem Ext.below {b : Nat} {M M' : Mem} (h : Ext M M') (hb : M.next ≤ b) (hb' : b ≤ M'.next) : ∀ id k, M.get id = some k → (Go.Am.cut b M').get id = some k := fun id k hg => (cut_get hb').2 ⟨Nat.lt_of_lt_of_le (get_spec.1 hg).1 hb, h.old hg⟩
def TC (P : Program) (GL : List Nat) (f : FuncId) (Q : List Value → Mem → Value → Mem → Prop) : List Value → Mem → Value → Mem → Prop := fun args M v M' => Ev P GL f args M v M' ∧ Q args M v M'
theorem TC.ok {f : FuncId} {Q : List Value → Mem → Value → Mem → Prop} (B : Bd) : SpecOk P GL B f (pick (TC P GL f Q)) := SpecOk.pick fun _ _ _ _ h => h.1
theorem mem_belowT {n t : Nat} : ∀ {l : List Nat}, t ∈ below n l → t ∈ l
  | [], h => by cases h
  | x :: l, h => by
    unfold below at h
    cases hx : Nat.blt x n <;> rw [hx] at h
    · exact List.mem_cons_of_mem _ (mem_belowT h)
    · rcases List.mem_cons.1 h with rfl | h
      · exact List.mem_cons_self ..
      · exact List.mem_cons_of_mem _ (mem_belowT h)
theorem call_tn {f : FuncId} {Q : List Value → Mem → Value → Mem → Prop} {args : List Value} {M M0 : Mem} {b : Nat} (hM : MemOk M) (X : Ext M0 M) (hb : M0.next ≤ b) (hbn : b ≤ M.next)
    (hK : ∃ v M', TC P GL f Q args { M with log := [] } v M') (hT : ∀ v M', Q args { M with log := [] } v M' → Ext (cut b { M with log := [] }) M') :
    ∃ t v M' M1, (∀ SP : Specs, SP.calls f = some (pick (TC P GL f Q)) → OQ.holds P SP (.cl f args M ((bif t then 1 else 2), .val v, M1))) ∧ Ext M0 M1 ∧ MemOk M1 ∧ M.next ≤ M1.next ∧ Q args { M with log := [] } v M' ∧ ∀ id, M1.get id = M'.get id := by
  obtain ⟨v, M', h1, h2, h3⟩ := pick_spec hK
  have hE := hT v M' h3
  obtain ⟨L0, ha⟩ := h2.abs
  have hn : M.next ≤ M'.next := ha.next
  have hh : M'.hide = M.hide := hE.hide
  obtain ⟨L, k1, k2⟩ := hE.log
  have k1' : M'.log = L := by rw [k1]; exact List.append_nil L
  obtain ⟨L1, j1, j2⟩ := X.log
  have key : ∀ l : List Nat, (∀ t ∈ l, b ≤ t) → Ext M0 { M' with log := l ++ M.log, hide := M.hide } ∧ MemOk { M' with log := l ++ M.log, hide := M.hide } ∧ ∀ id, ({ M' with log := l ++ M.log, hide := M.hide } : Mem).get id = M'.get id := fun l hl => by
    have hg : ∀ id, ({ M' with log := l ++ M.log, hide := M.hide } : Mem).get id = M'.get id := fun id => by
      unfold Mem.get Mem.getA
      simp only [hh]
    refine ⟨⟨Nat.le_trans X.next hn, X.hide, fun id hid => ?_, l ++ L1, by show l ++ M.log = _; rw [j1, List.append_assoc], fun t ht => ?_⟩, fun id hid => Nat.lt_of_lt_of_le (hM id hid) hn, hg⟩
    · rw [hg, hE.get id (Nat.lt_of_lt_of_le hid hb), cut_get_lt (M := { M with log := [] }) hbn (Nat.lt_of_lt_of_le hid hb)]
      exact X.get id hid
    · rcases List.mem_append.1 ht with ht | ht
      · exact Nat.le_trans hb (hl t ht)
      · exact j2 t ht
  cases hl : below M.next M'.log with
  | nil =>
    obtain ⟨q1, q2, q3⟩ := key [] (fun t ht => by cases ht)
    refine ⟨true, v, M', { M' with log := [] ++ M.log, hide := M.hide }, fun SP hs => ⟨?_, by simp⟩, q1, q2, hn, h3, q3⟩
    unfold acall onlySpecs viaSpecs
    rw [hs]
    simp only [h1, hl]
    rfl
  | cons x l =>
    obtain ⟨q1, q2, q3⟩ := key (x :: l) (fun t ht => by rw [← hl] at ht; have := mem_belowT ht; rw [k1'] at this; exact k2 t this)
    refine ⟨false, v, M', { M' with log := (x :: l) ++ M.log, hide := M.hide }, fun SP hs => ⟨?_, by simp⟩, q1, q2, hn, h3, q3⟩
    unfold acall onlySpecs viaSpecs
    rw [hs]
    simp only [h1, hl]
    rfl
abbrev oU (P : Program) (tb : List Nat) (n : Nat) (fn : Func) (q : QC) (args : List Value) (M : Mem) (F : List OF) := (oexec P [] tb n fn.ntmps q (initT args 0 .nil) M F 0).map (fun r => (r.1.1, r.1.2.2, r.2.2.2))
theorem Ev.told_none {SP : Specs} (hN : noNum P) (hm : P.follows .mixedOrders = true) {f : FuncId} {fn : Func} {q : QC} {tb : List Nat} {n : Nat} {args : List Value} {M M' : Mem} {F : List OF} {e : AExit} {qs : OCol}
    (hf : P.funcs[f]? = some fn) (hq : bodyComp P f = some q) (hl : Nat.ble args.length fn.ntmps = true) (hr : fn.results = #[]) (hS : ∀ B, SpecsOk P [] B SP) (hB : ∀ id, elemN id tb = false → SP.blocks id = none)
    (hx : oU P tb n fn q args M F = some (e, M', qs)) (he : e = .ret ∨ e = .normal) (hh : OHold P SP qs) :
    Ev P [] f args M (.tuple #[]) M' := by
  refine Ev.told hN hm hf hq hl hS hB (e := e) (n := n) (F := F) (qs := qs) ?_ he hh
  unfold oU at hx
  cases hr0 : oexec P [] tb n fn.ntmps q (initT args 0 .nil) M F 0 with
  | none => rw [hr0] at hx; cases hx
  | some r =>
    rw [hr0] at hx
    simp only [Option.map_some, Option.some.injEq, Prod.mk.injEq] at hx ⊢
    refine ⟨hx.1, ?_, hx.2⟩
    unfold aresults
    rw [hr]
    rfl
theorem beq_flip (a b : Nat) (h : Nat.beq a b = false) : Nat.beq b a = false := by
  cases hb : Nat.beq b a
  · rfl
  · rw [Nat.eq_of_beq_eq_true hb, Nat.beq_refl] at h; cases h
theorem blksF_three {id k1 k2 k3 : Nat} {g1 g2 g3 : Code → St → Option (AExit × St)} (h : elemN id [k1, k2, k3] = false) : blksF [(k1, g1), (k2, g2), (k3, g3)] id = none := by
  simp only [elemN, Bool.or_eq_false_iff] at h
  obtain ⟨h1, h2, h3, _⟩ := h
  unfold blksF
  rw [beq_flip _ _ h1]
  unfold blksF
  rw [beq_flip _ _ h2]
  unfold blksF
  rw [beq_flip _ _ h3]
  rfl
end Go.Am
end

noncomputable section
set_option linter.unusedVariables false
namespace Go.Am
open Go
def Edg (a : AdjM) (ms u w : Int) : Prop := ∃ j ∈ rowV a.out u, andI ((a.set[j.toNat]?).getD 0) ms ≠ 0 ∧ (a.to[j.toNat]?).getD 0 = w
inductive RP (a : AdjM) (ms : Int) : Int → Int → Prop where
  | refl (v : Int) : RP a ms v v
  | step {v w u : Int} : Edg a ms v w → RP a ms w u → RP a ms v u
theorem RP.trans {a : AdjM} {ms u v w : Int} (h : RP a ms u v) (k : RP a ms v w) : RP a ms u w := by
  induction h with
  | refl _ => exact k
  | step e _ ih => exact .step e (ih k)
def Mk (m : List Bool) (w : Int) : Prop := 0 ≤ w → w.toNat < m.length → m[w.toNat]? = some true
structure Spr (a : AdjM) (ms v : Int) (m m' : List Bool) : Prop where
  len : m'.length = m.length
  up : ∀ u : Nat, m[u]? = some true → m'[u]? = some true
  own : Mk m' v
  new : ∀ u : Nat, m[u]? = some false → m'[u]? = some true → (∀ w, Edg a ms (u : Int) w → Mk m' w) ∧ RP a ms v (u : Int)
structure SprI (a : AdjM) (ms v : Int) (r : List Int) (m0 : List Bool) (i : Nat) (m : List Bool) : Prop where
  len : m.length = m0.length
  up : ∀ u : Nat, m0[u]? = some true → m[u]? = some true
  new : ∀ u : Nat, m0[u]? = some false → m[u]? = some true → (∀ w, Edg a ms (u : Int) w → Mk m w) ∧ RP a ms v (u : Int)
  did : ∀ j ∈ r.take i, andI ((a.set[j.toNat]?).getD 0) ms ≠ 0 → Mk m ((a.to[j.toNat]?).getD 0)
variable {a : AdjM} {ms v : Int}
theorem Mk.up {m m' : List Bool} {w : Int} (hl : m'.length = m.length) (hu : ∀ u : Nat, m[u]? = some true → m'[u]? = some true) (h : Mk m w) : Mk m' w := fun h0 h1 => hu _ (h h0 (by omega))
theorem Spr.same {m : List Bool} (h : Mk m v) : Spr a ms v m m := ⟨rfl, fun _ h => h, h, fun u h1 h2 => by rw [h1] at h2; cases h2⟩
theorem SprI.zero {r : List Int} {m0 : List Bool} : SprI a ms v r m0 0 m0 := ⟨rfl, fun _ h => h, (fun u h1 h2 => by rw [h1] at h2; cases h2), (fun j hj => by simp at hj)⟩
theorem SprI.skip {r : List Int} {m0 m : List Bool} {i : Nat} (h : SprI a ms v r m0 i m) {j : Int} (hj : r[i]? = some j) (h0 : andI ((a.set[j.toNat]?).getD 0) ms = 0) : SprI a ms v r m0 (i + 1) m :=
  ⟨h.len, h.up, h.new, fun x hx => by
    rw [List.take_add_one, hj] at hx
    rcases List.mem_append.1 hx with hx | hx
    · exact h.did x hx
    · simp only [Option.toList, List.mem_singleton] at hx
      subst hx
      exact fun hh => absurd h0 hh⟩
theorem SprI.call {m0 m m' : List Bool} {i : Nat} (h : SprI a ms v (rowV a.out v) m0 i m) {j : Int} (hj : (rowV a.out v)[i]? = some j) (h0 : andI ((a.set[j.toNat]?).getD 0) ms ≠ 0) (hs : Spr a ms ((a.to[j.toNat]?).getD 0) m m') : SprI a ms v (rowV a.out v) m0 (i + 1) m' := by
  have hm : ∀ w, Mk m w → Mk m' w := fun w hw => hw.up hs.len hs.up
  refine ⟨hs.len.trans h.len, fun u hu => hs.up u (h.up u hu), fun u h1 h2 => ?_, fun x hx => ?_⟩
  · cases hb : m[u]? with
    | none =>
      have h3 := List.getElem?_eq_none_iff.1 hb
      have h4 : m'[u]? = none := List.getElem?_eq_none (by rw [hs.len]; exact h3)
      rw [h4] at h2; cases h2
    | some b =>
      cases b with
      | true =>
        obtain ⟨k1, k2⟩ := h.new u h1 hb
        exact ⟨fun w hw => hm w (k1 w hw), k2⟩
      | false =>
        obtain ⟨k1, k2⟩ := hs.new u hb h2
        exact ⟨k1, .step ⟨j, List.mem_of_getElem? hj, h0, rfl⟩ k2⟩
  · rw [List.take_add_one, hj] at hx
    rcases List.mem_append.1 hx with hx | hx
    · exact fun hh => hm _ (h.did x hx hh)
    · simp only [Option.toList, List.mem_singleton] at hx
      subst hx
      exact fun _ => hs.own
theorem SprI.fin {m m' : List Bool} {u : Nat} (hu : m[u]? = some false) (h : SprI a ms (u : Int) (rowV a.out (u : Int)) (m.set u true) (rowV a.out (u : Int)).length m') : Spr a ms (u : Int) m m' := by
  have hl : u < m.length := (List.getElem?_eq_some_iff.1 hu).1
  have hm : m'[u]? = some true := h.up u (by rw [List.getElem?_set_self hl])
  refine ⟨by rw [h.len, List.length_set], fun x hx => h.up x ?_, fun _ _ => by simpa using hm, fun x h1 h2 => ?_⟩
  · by_cases e : u = x
    · subst e; rw [List.getElem?_set_self hl]
    · rw [List.getElem?_set_ne e]; exact hx
  · by_cases e : u = x
    · subst e
      refine ⟨fun w hw => ?_, .refl _⟩
      obtain ⟨j, k1, k2, rfl⟩ := hw
      exact h.did j (by rw [List.take_length]; exact k1) k2
    · exact h.new x (by rw [List.getElem?_set_ne e]; exact h1) h2
theorem cnt_up : ∀ {m m' : List Bool}, m'.length = m.length → (∀ u : Nat, m[u]? = some true → m'[u]? = some true) → m'.count false ≤ m.count false
  | [], m', h, _ => by rw [List.eq_nil_of_length_eq_zero h]; simp
  | b :: m, [], h, _ => by simp at h
  | b :: m, b' :: m', h, hu => by
    have ih := cnt_up (m := m) (m' := m') (by simpa using h) fun u hh => by simpa using hu (u + 1) (by simpa using hh)
    have h0 := hu 0
    simp only [List.getElem?_cons_zero, Option.some.injEq] at h0
    rw [List.count_cons, List.count_cons]
    cases b <;> cases b' <;> simp at h0 ⊢ <;> omega
theorem cnt_set : ∀ {m : List Bool} {u : Nat}, m[u]? = some false → (m.set u true).count false < m.count false
  | [], u, h => by simp at h
  | b :: m, 0, h => by
    simp only [List.getElem?_cons_zero, Option.some.injEq] at h
    subst h
    simp
  | b :: m, u + 1, h => by
    have := cnt_set (m := m) (u := u) (by simpa using h)
    rw [List.set_cons_succ, List.count_cons, List.count_cons]
    omega
def okR (a : AdjM) : Prop := okA a ∧ a.to.length = a.set.length
def asSp (ty : TypeId) (x : AdjM × Int × Int × Nat × List Bool) (l : List Value) (M : Mem) : Prop := ∃ p c, l = [p, i64 x.2.1, i64 x.2.2.1, sli x.2.2.2.1 0 x.2.2.2.2.length c] ∧ pAdj ty x.1 p (cut x.2.2.2.1 M) ∧ M.get x.2.2.2.1 = some ⟨x.2.2.2.2.map .bool, 4, 1, 0, true⟩ ∧ okR x.1 ∧ x.2.2.2.2.length = x.1.out.length
theorem bools_inj {m m' : List Bool} (h : m.map Value.bool = m'.map Value.bool) : m = m' := (List.map_inj_right (fun x y h => by simpa using h)).1 h
theorem set_splice {m : List Bool} {v : Int} (h : v.toNat < m.length) : splice (m.map Value.bool) (0 + v.toNat * 1) [.bool true] = (m.set v.toNat true).map .bool := by
  rw [Nat.zero_add, Nat.mul_one, splice_one _ _ _ (by simpa using h), List.map_set]
theorem asSp.uniq {ty : TypeId} {x y : AdjM × Int × Int × Nat × List Bool} {l : List Value} {M : Mem} (h : asSp ty x l M) (k : asSp ty y l M) : x = y := by
  obtain ⟨a, v, ms, b, m⟩ := x
  obtain ⟨a', v', ms', b', m'⟩ := y
  obtain ⟨p, c, h1, h2, h3, _⟩ := h
  obtain ⟨q, d, k1, k2, k3, _⟩ := k
  rw [h1] at k1
  simp only [List.cons.injEq, Value.slice.injEq, Option.some.injEq, Addr.mk.injEq, and_true, i64, Value.int.injEq, true_and] at k1
  obtain ⟨rfl, rfl, rfl, rfl, _⟩ := k1
  simp only at h2 h3 k2 k3
  rw [h3] at k3
  simp only [Option.some.injEq, ABlk.mk.injEq, and_true] at k3
  obtain rfl := bools_inj k3
  obtain rfl := AP.uniq (R := pAdj ty) h2 k2
  rfl
theorem asSp.log {ty : TypeId} {x : AdjM × Int × Int × Nat × List Bool} {l : List Value} {M : Mem} (h : asSp ty x l M) : asSp ty x l { M with log := [] } := by
  obtain ⟨p, c, h1, h2, h3, h4⟩ := h
  exact ⟨p, c, h1, AP.ext (R := pAdj ty) (M := cut x.2.2.2.1 M) (M' := cut x.2.2.2.1 { M with log := [] }) (fun _ _ hg => hg) h2, h3, h4⟩
def QSp (ty : TypeId) (l : List Value) (M : Mem) (_ : Value) (M' : Mem) : Prop := ∃ x m', asSp ty x l M ∧ Spr x.1 x.2.2.1 x.2.1 x.2.2.2.2 m' ∧ M'.get x.2.2.2.1 = some ⟨m'.map .bool, 4, 1, 0, true⟩ ∧ Ext (cut x.2.2.2.1 M) M' ∧ ∀ id k, M.get id = some k → id ≠ x.2.2.2.1 → M'.get id = some k
theorem call_sp {P : Program} {ty : TypeId} {f : FuncId} {x : AdjM × Int × Int × Nat × List Bool} {l : List Value} {M M0 : Mem} (hM : MemOk M) (X : Ext M0 M) (hb : M0.next ≤ x.2.2.2.1) (h : asSp ty x l M) (hK : ∃ v M', TC P [] f (QSp ty) l { M with log := [] } v M') :
    ∃ t v m' M1, (∀ SP : Specs, SP.calls f = some (pick (TC P [] f (QSp ty))) → OQ.holds P SP (.cl f l M ((bif t then 1 else 2), .val v, M1))) ∧ Ext M0 M1 ∧ MemOk M1 ∧ M.next ≤ M1.next ∧ M1.get x.2.2.2.1 = some ⟨m'.map .bool, 4, 1, 0, true⟩ ∧ (∀ id k, M.get id = some k → id ≠ x.2.2.2.1 → M1.get id = some k) ∧ Spr x.1 x.2.2.1 x.2.1 x.2.2.2.2 m' := by
  have hlt : x.2.2.2.1 ≤ M.next := by obtain ⟨_, _, _, _, h3, _⟩ := h; exact Nat.le_of_lt (Mem.lt_of_get h3)
  obtain ⟨t, v, M', M1, h1, h2, h3, h4, ⟨y, m', k1, k2, k3, k4, k5⟩, h6⟩ := call_tn hM X hb hlt hK (fun v M' ⟨y, m', k1, _, _, k4, _⟩ => by rw [h.log.uniq k1]; exact k4)
  obtain rfl := h.log.uniq k1
  exact ⟨t, v, m', M1, h1, h2, h3, h4, by rw [h6]; exact k3, fun id k hg hid => by rw [h6]; exact k5 id k hg hid, k2⟩
def trueTo (m : List Bool) (i : Nat) : List Int := (List.range i).filterMap fun u => if m[u]? = some true then some ((u : Nat) : Int) else none
theorem trueTo_succ (m : List Bool) (i : Nat) : trueTo m (i + 1) = trueTo m i ++ (if m[i]? = some true then [((i : Nat) : Int)] else []) := by
  unfold trueTo
  rw [List.range_succ, List.filterMap_append]
  by_cases h : m[i]? = some true <;> simp [h]
theorem trueTo_len (m : List Bool) (i : Nat) : (trueTo m i).length ≤ i := by
  have := List.length_filterMap_le (fun u : Nat => if m[u]? = some true then some ((u : Nat) : Int) else none) (List.range i)
  simpa [trueTo] using this
open Classical in
def reachL (a : AdjM) (ms v : Int) : List Int := (List.range a.out.length).filterMap fun u => if RP a ms v ((u : Nat) : Int) ∧ 0 ≤ v ∧ v.toNat < a.out.length then some ((u : Nat) : Int) else none
theorem mem_reachL {a : AdjM} {ms v u : Int} : u ∈ reachL a ms v ↔ (0 ≤ u ∧ u < (a.out.length : Int)) ∧ RP a ms v u ∧ 0 ≤ v ∧ v < (a.out.length : Int) := by
  unfold reachL
  simp only [List.mem_filterMap, List.mem_range]
  constructor
  · rintro ⟨k, h1, h2⟩
    by_cases hh : RP a ms v ((k : Nat) : Int) ∧ 0 ≤ v ∧ v.toNat < a.out.length
    · rw [if_pos hh] at h2
      obtain rfl := Option.some.inj h2
      exact ⟨by omega, hh.1, hh.2.1, by omega⟩
    · rw [if_neg hh] at h2; cases h2
  · rintro ⟨h1, h2, h3, h4⟩
    refine ⟨u.toNat, by omega, ?_⟩
    have hu : ((u.toNat : Nat) : Int) = u := by omega
    rw [hu, if_pos ⟨h2, h3, by omega⟩]
theorem edg_out {a : AdjM} {ms v w : Int} (h : Edg a ms v w) : 0 ≤ v ∧ v < (a.out.length : Int) := by
  obtain ⟨j, h1, _⟩ := h
  unfold rowV at h1
  split at h1
  · rename_i h0
    refine ⟨h0, ?_⟩
    by_cases hh : v.toNat < a.out.length
    · omega
    · rw [List.getElem?_eq_none (by omega)] at h1; cases h1
  · cases h1
theorem filterMap_same {α β : Type} {f g : α → Option β} : ∀ {l : List α}, (∀ x ∈ l, f x = g x) → l.filterMap f = l.filterMap g
  | [], _ => rfl
  | x :: l, h => by
    have ih := filterMap_same (l := l) fun y hy => h y (List.mem_cons_of_mem _ hy)
    have hx := h x (List.mem_cons_self ..)
    simp only [List.filterMap_cons, hx, ih]
theorem reach_marks {a : AdjM} {ms v : Int} {m' : List Bool} (h : Spr a ms v (List.replicate a.out.length false) m') : trueTo m' a.out.length = reachL a ms v := by
  unfold trueTo reachL
  apply filterMap_same
  intro u hu
  have hu' : u < a.out.length := List.mem_range.1 hu
  have hlen : m'.length = a.out.length := by rw [h.len, List.length_replicate]
  have h0 : (List.replicate a.out.length false)[u]? = some false := by rw [List.getElem?_replicate, if_pos hu']
  have key : m'[u]? = some true ↔ RP a ms v ((u : Nat) : Int) ∧ 0 ≤ v ∧ v.toNat < a.out.length := by
    constructor
    · intro hm
      have h2 := (h.new u h0 hm).2
      refine ⟨h2, ?_⟩
      cases h2 with
      | refl => omega
      | step e _ => have := edg_out e; omega
    · rintro ⟨h1, h2, h3⟩
      have cl : ∀ x y : Int, RP a ms x y → Mk m' x → Mk m' y := fun x y hr => by
        induction hr with
        | refl _ => exact id
        | @step x w y e _ ih =>
          intro hx
          refine ih ?_
          have hx2 := edg_out e
          have hxm := hx hx2.1 (by omega)
          have h4 : (List.replicate a.out.length false)[x.toNat]? = some false := by rw [List.getElem?_replicate, if_pos (by omega)]
          have hxx : ((x.toNat : Nat) : Int) = x := by omega
          have := (h.new x.toNat h4 hxm).1
          rw [hxx] at this
          exact this w e
      have := cl v _ h1 h.own (by omega) (by omega)
      simpa using this
  by_cases hk : m'[u]? = some true
  · rw [if_pos hk, if_pos (key.1 hk)]
  · rw [if_neg hk, if_neg (fun hh => hk (key.2 hh))]
end Go.Am
end

noncomputable section
set_option linter.unusedVariables false
namespace Go.Am
open Go
theorem okR_adjM {n : Nat} {l : List E4} (h : chkN ((n : Nat) : Int) l = true) : okR (adjM n l) := ⟨okA_adjM h, by simp [adjM]⟩
theorem out_len (n : Nat) (l : List E4) : (adjM n l).out.length = n := rowsOf_len _ _
theorem setD_range {a : AdjM} (h : okA a) (j : Int) : 0 ≤ (a.set[j.toNat]?).getD 0 ∧ (a.set[j.toNat]?).getD 0 < 32 := by
  cases hh : a.set[j.toNat]? with
  | none => simp
  | some z => exact h.2.2.2 z (List.mem_of_getElem? hh)
theorem RP.mono {a : AdjM} {s t : Int} (h : ∀ j : Int, andI ((a.set[j.toNat]?).getD 0) s ≠ 0 → andI ((a.set[j.toNat]?).getD 0) t ≠ 0) {v u : Int} (hr : RP a s v u) : RP a t v u := by
  induction hr with
  | refl v => exact .refl v
  | step e _ ih => exact .step (by obtain ⟨j, h1, h2, h3⟩ := e; exact ⟨j, h1, h _ h2, h3⟩) ih
theorem and_or {z s m : Int} (hz : 0 ≤ z ∧ z < 32) (hs : 0 ≤ s ∧ s < 32) (hm : 0 ≤ m ∧ m < 32) (h : andI z s ≠ 0) : andI z (orI s m) ≠ 0 := by
  obtain ⟨z, rfl⟩ : ∃ k : Nat, z = k := ⟨z.toNat, by omega⟩
  obtain ⟨s, rfl⟩ : ∃ k : Nat, s = k := ⟨s.toNat, by omega⟩
  obtain ⟨m, rfl⟩ : ∃ k : Nat, m = k := ⟨m.toNat, by omega⟩
  rw [andI_nat (by omega) (by omega)] at h
  rw [orI_nat (by omega) (by omega), andI_nat (by omega) (by have := Nat.or_lt_two_pow (n := 5) (x := s) (y := m) (by omega) (by omega); omega)]
  intro hh
  apply h
  have h0 : z &&& (s ||| m) = 0 := by omega
  rw [Nat.and_or_distrib_left, Nat.or_eq_zero_iff] at h0
  omega
theorem reachL_mono {a : AdjM} (ha : okA a) {s m v u : Int} (hs : 0 ≤ s ∧ s < 32) (hm : 0 ≤ m ∧ m < 32) (h : u ∈ reachL a s v) : u ∈ reachL a (orI s m) v := by
  rw [mem_reachL] at h ⊢
  exact ⟨h.1, h.2.1.mono (fun j hj => and_or (setD_range ha j) hs hm hj), h.2.2⟩
theorem reachL_trans {a : AdjM} {s v u w : Int} (h : u ∈ reachL a s v) (k : w ∈ reachL a s u) : w ∈ reachL a s v := by
  rw [mem_reachL] at h k ⊢
  exact ⟨k.1, h.2.1.trans k.2.1, h.2.2⟩
theorem reachL_self {a : AdjM} {s v : Int} (hv : 0 ≤ v ∧ v < (a.out.length : Int)) : v ∈ reachL a s v := mem_reachL.2 ⟨hv, .refl v, hv⟩
theorem filt_one (n k : Nat) : (List.range n).filterMap (fun u => if u = k then some ((u : Nat) : Int) else none) = if k < n then [((k : Nat) : Int)] else [] := by
  induction n with
  | zero => simp
  | succ n ih =>
    rw [List.range_succ, List.filterMap_append, ih]
    by_cases h : n = k
    · subst h; simp
    · by_cases h2 : k < n
      · simp [h, h2, Nat.lt_succ_of_lt h2]
      · simp [h, h2]; omega
theorem reachL_zero {a : AdjM} (ha : okA a) {v : Int} (hv : 0 ≤ v ∧ v < (a.out.length : Int)) : reachL a 0 v = [v] := by
  have h0 : ∀ u, RP a 0 v u ↔ u = v := fun u => by
    constructor
    · intro h
      cases h with
      | refl => rfl
      | step e _ =>
        obtain ⟨j, _, h2, _⟩ := e
        exfalso; apply h2
        have hz := setD_range ha j
        obtain ⟨z, hz2⟩ : ∃ k : Nat, (a.set[j.toNat]?).getD 0 = k := ⟨((a.set[j.toNat]?).getD 0).toNat, by omega⟩
        rw [hz2, show (0 : Int) = ((0 : Nat) : Int) from rfl, andI_nat (by omega) (by omega)]
        simp
    · rintro rfl; exact .refl _
  unfold reachL
  have := filt_one a.out.length v.toNat
  rw [if_pos (by omega), show ((v.toNat : Nat) : Int) = v by omega] at this
  rw [← this]
  apply filterMap_same
  intro u _
  by_cases hu : u = v.toNat
  · subst hu
    rw [if_pos rfl, if_pos ⟨(h0 _).2 (by omega), by omega, by omega⟩]
  · rw [if_neg hu, if_neg (fun hh => hu (by have := (h0 _).1 hh.1; omega))]
theorem reachL_len (a : AdjM) (s v : Int) : (reachL a s v).length ≤ a.out.length := by
  classical
  have := List.length_filterMap_le (fun u : Nat => if RP a s v ((u : Nat) : Int) ∧ 0 ≤ v ∧ v.toNat < a.out.length then some ((u : Nat) : Int) else none) (List.range a.out.length)
  unfold reachL
  simpa using this
theorem reachL_pw (a : AdjM) (s v : Int) : (reachL a s v).Pairwise (· < ·) := by
  unfold reachL
  rw [List.pairwise_filterMap]
  refine List.Pairwise.imp ?_ List.pairwise_lt_range
  intro x y hxy p hp q hq
  split at hp
  · split at hq
    · cases hp; cases hq; omega
    · cases hq
  · cases hp
end Go.Am
end

noncomputable section
set_option linter.unusedVariables false
namespace Go.Am
open Go
def lineK (n : Int) : Nat := 1 + (modI n 40).toNat
theorem lineK_range (n : Int) : 1 ≤ lineK n ∧ lineK n ≤ 40 := by
  have := modI_range (x := n) (n := 40) (by decide)
  unfold lineK; omega
theorem lineK_eq (n : Int) : IntKind.wrap .i64 ((1 : Int) + modI n 40) = ((lineK n : Nat) : Int) := by
  have := modI_range (x := n) (n := 40) (by decide)
  have e : ((lineK n : Nat) : Int) = 1 + modI n 40 := by unfold lineK; omega
  rw [e]
  exact Go.Am.wrap_small (by omega) (by omega)
def lineE (i : Nat) : E4 := ⟨((i : Nat) : Int), ((i + 1 : Nat) : Int), ((i % 5 : Nat) : Int), 0⟩
def lineL (i : Nat) : List E4 := (List.range i).map lineE
theorem lineL_len (i : Nat) : (lineL i).length = i := by simp [lineL]
theorem lineL_succ (i : Nat) : lineL (i + 1) = lineL i ++ [lineE i] := by simp [lineL, List.range_succ]
theorem line_chk {k : Nat} (h : 1 ≤ k ∧ k ≤ 40) : chkN ((k : Nat) : Int) (lineL (k - 1)) = true := by
  unfold chkN fitN
  simp only [Bool.and_eq_true, Bool.not_eq_true', Bool.or_eq_false_iff, Bool.not_eq_false', decide_eq_true_eq, decide_eq_false_iff_not, List.all_eq_true, lineL_len]
  refine ⟨⟨⟨by omega, by omega⟩, by omega⟩, fun e he => ?_⟩
  obtain ⟨i, hi, rfl⟩ := List.mem_map.1 he
  have hi := List.mem_range.1 hi
  unfold fitE belB lineE
  simp only [Bool.and_eq_true, decide_eq_true_eq]
  refine ⟨⟨⟨⟨⟨?_, ?_⟩, ?_, ?_⟩, ?_, ?_⟩, ?_⟩, ?_⟩ <;> omega
theorem tmod5 (i : Nat) : (((i : Nat) : Int)).tmod 5 = ((i % 5 : Nat) : Int) := rfl
def bitS (s : Int) (x : Nat) : Bool := s.toNat.testBit (x % 5)
theorem bit_and {s : Int} (hs : 0 ≤ s ∧ s < 32) (x : Nat) : andI (setM ((x % 5 : Nat) : Int)) s ≠ 0 ↔ bitS s x = true := by
  obtain ⟨s, rfl⟩ : ∃ k : Nat, s = k := ⟨s.toNat, by omega⟩
  have hx : x % 5 < 5 := Nat.mod_lt _ (by decide)
  unfold setM bitS
  generalize x % 5 = m at hx
  have hp : 2 ^ m < 1099511627776 := Nat.lt_of_le_of_lt (Nat.pow_le_pow_right (by decide) (show m ≤ 5 by omega)) (by decide)
  rw [Int.toNat_natCast, andI_nat hp (by omega), Int.toNat_natCast]
  have : (2 ^ m &&& s) = if s.testBit m then 2 ^ m else 0 := by
    apply Nat.eq_of_testBit_eq
    intro j
    rw [Nat.testBit_and, Nat.testBit_two_pow]
    by_cases hj : m = j
    · subst hj; cases h : s.testBit m <;> simp
    · cases h : s.testBit m <;> simp [hj]
  rw [this]
  have h2 : 0 < 2 ^ m := Nat.pow_pos (by decide)
  by_cases hb : s.testBit m = true
  · rw [if_pos hb]; exact ⟨fun _ => hb, fun _ => by omega⟩
  · rw [if_neg hb]; exact ⟨fun hh => absurd rfl hh, fun hh => absurd hh hb⟩
theorem bit_shr {s : Int} (hs : 0 ≤ s ∧ s < 32) (x : Nat) : (andI (s.fdiv (2 ^ (((x % 5 : Nat) : Int)).toNat)) (1 : Int) == (1 : Int)) = bitS s x := by
  obtain ⟨s, rfl⟩ : ∃ k : Nat, s = k := ⟨s.toNat, by omega⟩
  unfold bitS
  rw [Int.toNat_natCast, Int.toNat_natCast]
  have hx : x % 5 < 5 := Nat.mod_lt _ (by decide)
  generalize x % 5 = m at hx
  have e1 : ((s : Nat) : Int).fdiv (2 ^ m) = ((s / 2 ^ m : Nat) : Int) := by
    rw [Int.fdiv_eq_ediv_of_nonneg _ (Int.le_of_lt (Int.pow_pos (by decide)))]
    simp
  have hle : s / 2 ^ m ≤ s := Nat.div_le_self _ _
  rw [e1, show (1 : Int) = ((1 : Nat) : Int) from rfl, andI_nat (by omega) (by decide)]
  have : s.testBit m = decide (s / 2 ^ m &&& 1 = 1) := by
    rw [Nat.testBit_eq_decide_div_mod_eq, Nat.and_one_is_mod]
  rw [this]
  rw [Bool.eq_iff_iff]
  simp only [beq_iff_eq, decide_eq_true_eq]
  omega
structure EndsAt (k : Nat) (s : Int) (v u : Nat) : Prop where
  le : v ≤ u
  lt : u < k
  on : ∀ x, v ≤ x → x < u → bitS s x = true
  stop : ¬ (u + 1 < k ∧ bitS s u = true)
theorem ends_ex (k : Nat) (s : Int) : ∀ d v : Nat, v < k → k - v = d → ∃ u, EndsAt k s v u := by
  intro d
  induction d with
  | zero => intro v h1 h2; omega
  | succ d ih =>
    intro v h1 h2
    by_cases hc : v + 1 < k ∧ bitS s v = true
    · obtain ⟨u, h3⟩ := ih (v + 1) hc.1 (by omega)
      refine ⟨u, by have := h3.le; omega, h3.lt, fun x hx hy => ?_, h3.stop⟩
      by_cases e : x = v
      · rw [e]; exact hc.2
      · exact h3.on x (by omega) hy
    · exact ⟨v, Nat.le_refl _, h1, fun x hx hy => by omega, hc⟩
theorem line_edg {k : Nat} (h : 1 ≤ k ∧ k ≤ 40) {s x w : Int} : Edg (adjM k (lineL (k - 1))) s x w ↔ ∃ i : Nat, i + 1 < k ∧ x = ((i : Nat) : Int) ∧ w = ((i + 1 : Nat) : Int) ∧ andI (setM ((i % 5 : Nat) : Int)) s ≠ 0 := by
  have hck := line_chk h
  have get : ∀ j : Nat, j < k - 1 → (lineL (k - 1))[j]? = some (lineE j) := fun j hj => by simp [lineL, hj]
  constructor
  · rintro ⟨j, h1, h2, h3⟩
    have hv : 0 ≤ x ∧ x < (k : Int) := by
      have := edg_out (a := adjM k (lineL (k - 1))) (ms := s) (v := x) (w := w) ⟨j, h1, h2, h3⟩
      rw [out_len] at this
      exact this
    have e : rowV (adjM k (lineL (k - 1))).out x = refRow .fr (lineL (k - 1)) x (lineL (k - 1)).length := refRow_rowV hv (tell_range hck (by simp))
    rw [e] at h1
    unfold refRow at h1
    simp only [List.mem_filterMap, List.mem_range, lineL_len] at h1
    obtain ⟨i, hi, h4⟩ := h1
    rw [get i hi] at h4
    simp only at h4
    by_cases hh : tellE .fr (lineE i) = x
    · rw [if_pos hh] at h4
      obtain rfl := Option.some.inj h4
      have hx : ((i : Nat) : Int) = x := hh
      have hs : ((adjM k (lineL (k - 1))).set[(((i : Nat) : Int)).toNat]?).getD 0 = setM ((i % 5 : Nat) : Int) := by
        show (((lineL (k - 1)).map (tellE .set))[(((i : Nat) : Int)).toNat]?).getD 0 = _
        rw [Int.toNat_natCast, List.getElem?_map, get i hi]; rfl
      have ht : ((adjM k (lineL (k - 1))).to[(((i : Nat) : Int)).toNat]?).getD 0 = ((i + 1 : Nat) : Int) := by
        show (((lineL (k - 1)).map (tellE .to))[(((i : Nat) : Int)).toNat]?).getD 0 = _
        rw [Int.toNat_natCast, List.getElem?_map, get i hi]; rfl
      rw [hs] at h2
      rw [ht] at h3
      exact ⟨i, by omega, hx.symm, h3.symm, h2⟩
    · rw [if_neg hh] at h4; cases h4
  · rintro ⟨i, h1, rfl, rfl, h2⟩
    have hi : i < k - 1 := by omega
    have e : rowV (adjM k (lineL (k - 1))).out ((i : Nat) : Int) = refRow .fr (lineL (k - 1)) ((i : Nat) : Int) (lineL (k - 1)).length := refRow_rowV (by omega) (tell_range hck (by simp))
    refine ⟨((i : Nat) : Int), ?_, ?_, ?_⟩
    · rw [e]
      unfold refRow
      simp only [List.mem_filterMap, List.mem_range, lineL_len]
      exact ⟨i, hi, by rw [get i hi]; simp [tellE, lineE]⟩
    · have hs : ((adjM k (lineL (k - 1))).set[(((i : Nat) : Int)).toNat]?).getD 0 = setM ((i % 5 : Nat) : Int) := by
        show (((lineL (k - 1)).map (tellE .set))[(((i : Nat) : Int)).toNat]?).getD 0 = _
        rw [Int.toNat_natCast, List.getElem?_map, get i hi]; rfl
      rw [hs]; exact h2
    · show (((lineL (k - 1)).map (tellE .to))[(((i : Nat) : Int)).toNat]?).getD 0 = _
      rw [Int.toNat_natCast, List.getElem?_map, get i hi]; rfl
theorem line_rp {k : Nat} (h : 1 ≤ k ∧ k ≤ 40) {s : Int} (hs : 0 ≤ s ∧ s < 32) {v u : Nat} (he : EndsAt k s v u) (y : Nat) : RP (adjM k (lineL (k - 1))) s ((v : Nat) : Int) ((y : Nat) : Int) ↔ v ≤ y ∧ y ≤ u := by
  constructor
  · have key : ∀ a b : Int, RP (adjM k (lineL (k - 1))) s a b → ∀ x z : Nat, a = ((x : Nat) : Int) → b = ((z : Nat) : Int) → v ≤ x → x ≤ u → x ≤ z ∧ z ≤ u := by
      intro a b hr
      induction hr with
      | refl _ => intro x z h1 h2 h3 h4; omega
      | @step a w b e _ ih =>
        intro x z h1 h2 h3 h4
        obtain ⟨i, k1, k2, k3, k4⟩ := (line_edg h).1 e
        have hix : i = x := by omega
        subst hix
        have hb := (bit_and hs i).1 k4
        have hlt : i < u := by
          by_cases hq : i < u
          · exact hq
          · exfalso
            have : i = u := by omega
            subst this
            exact he.stop ⟨k1, hb⟩
        have := ih (i + 1) z k3 h2 (by omega) (by omega)
        omega
    intro hr
    exact key _ _ hr v y rfl rfl (Nat.le_refl _) he.le
  · rintro ⟨h1, h2⟩
    obtain ⟨d, rfl⟩ : ∃ d, y = v + d := ⟨y - v, by omega⟩
    have key : ∀ d x : Nat, v ≤ x → x + d ≤ u → RP (adjM k (lineL (k - 1))) s ((x : Nat) : Int) ((x + d : Nat) : Int) := by
      intro d
      induction d with
      | zero => intro x _ _; exact .refl _
      | succ d ih =>
        intro x h3 h4
        have hb := (bit_and hs x).2 (he.on x h3 (by omega))
        refine .step ((line_edg h).2 ⟨x, by have := he.lt; omega, rfl, rfl, hb⟩) ?_
        have := ih (x + 1) (by omega) (by omega)
        rwa [show x + 1 + d = x + (d + 1) by omega] at this
    exact key d v (Nat.le_refl _) h2
def runL (v d : Nat) : List Int := (List.range d).map fun i => ((v + i : Nat) : Int)
theorem runL_len (v d : Nat) : (runL v d).length = d := by simp [runL]
theorem runL_get {v d i : Nat} (h : i < d) : (runL v d)[i]? = some ((v + i : Nat) : Int) := by simp [runL, h]
theorem filt_none {α β : Type} {f : α → Option β} : ∀ {l : List α}, (∀ x ∈ l, f x = none) → l.filterMap f = []
  | [], _ => rfl
  | x :: l, h => by
    rw [List.filterMap_cons, h x (List.mem_cons_self ..)]
    exact filt_none fun y hy => h y (List.mem_cons_of_mem _ hy)
theorem filt_run (n v u : Nat) (h1 : v ≤ u) (h2 : u < n) : (List.range n).filterMap (fun y => if v ≤ y ∧ y ≤ u then some ((y : Nat) : Int) else none) = runL v (u - v + 1) := by
  have e : List.range n = List.range v ++ (List.range (u - v + 1)).map (v + ·) ++ (List.range (n - (u + 1))).map (u + 1 + ·) := by
    rw [← List.range_add, show v + (u - v + 1) = u + 1 by omega, ← List.range_add, show u + 1 + (n - (u + 1)) = n by omega]
  rw [e, List.filterMap_append, List.filterMap_append, filt_none, filt_none (l := (List.range (n - (u + 1))).map (u + 1 + ·)), List.nil_append, List.append_nil, List.filterMap_map]
  · unfold runL
    rw [← List.filterMap_eq_map]
    apply filterMap_same
    intro i hi
    have := List.mem_range.1 hi
    simp only [Function.comp]
    rw [if_pos (by omega)]
  · intro x hx
    obtain ⟨i, _, rfl⟩ := List.mem_map.1 hx
    rw [if_neg (by omega)]
  · intro x hx
    have := List.mem_range.1 hx
    rw [if_neg (by omega)]
theorem line_reach {k : Nat} (h : 1 ≤ k ∧ k ≤ 40) {s : Int} (hs : 0 ≤ s ∧ s < 32) {v u : Nat} (he : EndsAt k s v u) : reachL (adjM k (lineL (k - 1))) s ((v : Nat) : Int) = runL v (u - v + 1) := by
  rw [← filt_run k v u he.le he.lt]
  unfold reachL
  rw [out_len]
  apply filterMap_same
  intro y hy
  have hy := List.mem_range.1 hy
  have := line_rp h hs he y
  by_cases hc : v ≤ y ∧ y ≤ u
  · rw [if_pos hc, if_pos ⟨this.2 hc, by omega, by have := he.le; have := he.lt; omega⟩]
  · rw [if_neg hc, if_neg (fun hh => hc (this.1 hh.1))]
end Go.Am
end

noncomputable section
set_option linter.unusedVariables false
namespace Go.Am
open Go
def swapE (e : E4) : E4 := ⟨e.t, e.f, e.m, e.c⟩
def turnL (l : List E4) : List E4 := l.map swapE
theorem turnL_len (l : List E4) : (turnL l).length = l.length := by simp [turnL]
theorem turn_chk {n : Int} {l : List E4} (h : chkN n l = true) : chkN n (turnL l) = true := by
  unfold chkN at h ⊢
  rw [turnL_len]
  simp only [Bool.and_eq_true, List.all_eq_true] at h ⊢
  refine ⟨h.1, fun e he => ?_⟩
  obtain ⟨e0, h0, rfl⟩ := List.mem_map.1 he
  have := h.2 e0 h0
  unfold fitE at this ⊢
  simp only [Bool.and_eq_true, swapE] at this ⊢
  exact ⟨⟨⟨⟨this.1.1.1.2, this.1.1.1.1⟩, this.1.1.2⟩, this.1.2⟩, this.2⟩
def flipT : Tell → Tell
  | .to => .fr
  | .fr => .to
  | .set => .set
theorem turn_row (k : Tell) (l : List E4) (v : Int) : refRow k (turnL l) v (turnL l).length = refRow (flipT k) l v l.length := by
  rw [turnL_len]
  unfold refRow
  apply filterMap_same
  intro j hj
  have hj := List.mem_range.1 hj
  have e1 : l[j]? = some l[j] := List.getElem?_eq_getElem hj
  have e2 : (turnL l)[j]? = some (swapE l[j]) := by unfold turnL; rw [List.getElem?_map, e1]; rfl
  rw [e1, e2]
  simp only
  cases k <;> rfl
theorem turn_modes (l : List E4) (v : Int) : ∀ i, i ≤ l.length → refModes (turnL l) v i = refModes l v i
  | 0, _ => by simp [refModes]
  | i + 1, h => by
    have he : l[i]? = some l[i] := List.getElem?_eq_getElem (by omega)
    have ht : (turnL l)[i]? = some (swapE l[i]) := by unfold turnL; rw [List.getElem?_map, he]; rfl
    rw [refModes_succ v he, refModes_succ v ht, turn_modes l v i (by omega)]
    simp only [swapE, Or.comm]
theorem edg_iff {n : Nat} {l : List E4} (hck : chkN ((n : Nat) : Int) l = true) {s x y : Int} : Edg (adjM n l) s x y ↔ ∃ e ∈ l, e.f = x ∧ e.t = y ∧ andI (setM e.m) s ≠ 0 := by
  constructor
  · rintro ⟨j, h1, h2, h3⟩
    have hv : 0 ≤ x ∧ x < (n : Int) := by
      have := edg_out (a := adjM n l) (ms := s) (v := x) (w := y) ⟨j, h1, h2, h3⟩
      rw [out_len] at this
      exact this
    have e : rowV (adjM n l).out x = refRow .fr l x l.length := refRow_rowV hv (tell_range hck (by simp))
    rw [e] at h1
    unfold refRow at h1
    simp only [List.mem_filterMap, List.mem_range] at h1
    obtain ⟨i, hi, h4⟩ := h1
    have e1 : l[i]? = some l[i] := List.getElem?_eq_getElem hi
    rw [e1] at h4
    simp only at h4
    by_cases hh : tellE .fr l[i] = x
    · rw [if_pos hh] at h4
      obtain rfl := Option.some.inj h4
      have hs : ((adjM n l).set[(((i : Nat) : Int)).toNat]?).getD 0 = setM (l[i]).m := by
        show ((l.map (tellE .set))[(((i : Nat) : Int)).toNat]?).getD 0 = _
        rw [Int.toNat_natCast, List.getElem?_map, e1]; rfl
      have ht : ((adjM n l).to[(((i : Nat) : Int)).toNat]?).getD 0 = (l[i]).t := by
        show ((l.map (tellE .to))[(((i : Nat) : Int)).toNat]?).getD 0 = _
        rw [Int.toNat_natCast, List.getElem?_map, e1]; rfl
      rw [hs] at h2
      rw [ht] at h3
      exact ⟨l[i], List.getElem_mem hi, hh, h3, h2⟩
    · rw [if_neg hh] at h4; cases h4
  · rintro ⟨e, he, rfl, rfl, h2⟩
    have hb := (chkN_spec hck).2.2.2 e he
    obtain ⟨i, hi, rfl⟩ := List.getElem_of_mem he
    have e1 : l[i]? = some l[i] := List.getElem?_eq_getElem hi
    have er : rowV (adjM n l).out (l[i]).f = refRow .fr l (l[i]).f l.length := refRow_rowV ⟨hb.1, hb.2.1⟩ (tell_range hck (by simp))
    refine ⟨((i : Nat) : Int), ?_, ?_, ?_⟩
    · rw [er]
      unfold refRow
      simp only [List.mem_filterMap, List.mem_range]
      exact ⟨i, hi, by rw [e1]; simp [tellE]⟩
    · have hs : ((adjM n l).set[(((i : Nat) : Int)).toNat]?).getD 0 = setM (l[i]).m := by
        show ((l.map (tellE .set))[(((i : Nat) : Int)).toNat]?).getD 0 = _
        rw [Int.toNat_natCast, List.getElem?_map, e1]; rfl
      rw [hs]; exact h2
    · show ((l.map (tellE .to))[(((i : Nat) : Int)).toNat]?).getD 0 = _
      rw [Int.toNat_natCast, List.getElem?_map, e1]; rfl
theorem rp_turn {n : Nat} {l k : List E4} (h1 : chkN ((n : Nat) : Int) l = true) (h2 : chkN ((n : Nat) : Int) k = true) (hs : ∀ e ∈ l, swapE e ∈ k) {s x y : Int} (h : RP (adjM n l) s x y) : RP (adjM n k) s y x := by
  induction h with
  | refl _ => exact .refl _
  | @step x w y e _ ih =>
    obtain ⟨e0, h3, h4, h5, h6⟩ := (edg_iff h1).1 e
    exact ih.trans (.step ((edg_iff h2).2 ⟨swapE e0, hs e0 h3, h5, h4, h6⟩) (.refl _))
theorem reach_turn {n : Nat} {l : List E4} (h : chkN ((n : Nat) : Int) l = true) (s x y : Int) : decide (x ∈ reachL (adjM n (turnL l)) s y) = decide (y ∈ reachL (adjM n l) s x) := by
  have key : x ∈ reachL (adjM n (turnL l)) s y ↔ y ∈ reachL (adjM n l) s x := by
    rw [mem_reachL, mem_reachL, out_len, out_len]
    have hsw : ∀ e : E4, swapE (swapE e) = e := fun e => rfl
    constructor
    · rintro ⟨k1, k2, k3⟩
      exact ⟨k3, rp_turn (turn_chk h) h (fun e he => by obtain ⟨e0, h0, rfl⟩ := List.mem_map.1 he; rw [hsw]; exact h0) k2, k1⟩
    · rintro ⟨k1, k2, k3⟩
      exact ⟨k3, rp_turn h (turn_chk h) (fun e he => List.mem_map.2 ⟨e, he, rfl⟩) k2, k1⟩
  rw [Bool.eq_iff_iff, decide_eq_true_eq, decide_eq_true_eq]
  exact key
end Go.Am
end
