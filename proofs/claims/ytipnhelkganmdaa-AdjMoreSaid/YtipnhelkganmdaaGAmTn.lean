/-
  Package adj: each of its laws for every argument; no conditions. The last text states which.
-/
import Derived.Test.YtipnhelkganmdaaGAmPw
import Derived.Test.YtipnhelkganmdaaGAmBk
set_option linter.unusedVariables false
set_option linter.unusedSimpArgs false
noncomputable section
namespace Go.Am
open Go
set_option linter.unusedVariables false
variable {P : Program} {GL : List Nat}
def cut (b : Nat) (M : Mem) : Mem := ⟨M.blks, b, M.hide, M.log⟩
theorem cut_get_lt {b id : Nat} {M : Mem} (hb : b ≤ M.next) (h : id < b) : (cut b M).get id = M.get id := by
  cases hg : M.get id with
  | some k =>
    obtain ⟨h1, h2, h3, h4⟩ := get_spec.1 hg
    exact get_spec.2 ⟨h, h2, h3, h4⟩
  | none =>
    cases hc : (cut b M).get id with
    | none => rfl
    | some k =>
      obtain ⟨h1, h2, h3, h4⟩ := get_spec.1 hc
      have : M.get id = some k := get_spec.2 ⟨Nat.lt_of_lt_of_le h1 hb, h2, h3, h4⟩
      rw [hg] at this; cases this
theorem cut_get {b id : Nat} {M : Mem} {k : ABlk} (hb : b ≤ M.next) : (cut b M).get id = some k ↔ id < b ∧ M.get id = some k := by
  constructor
  · intro h
    have hl : id < b := (get_spec.1 h).1
    rw [cut_get_lt hb hl] at h
    exact ⟨hl, h⟩
  · rintro ⟨h1, h2⟩
    rw [cut_get_lt hb h1]; exact h2
theorem Ext.cut {b : Nat} {M : Mem} (hb : b ≤ M.next) : Ext (Go.Am.cut b M) M := ⟨hb, rfl, fun _ hid => (cut_get_lt hb hid).symm, [], rfl, fun t h => by cases h⟩
theorem Ext.below {b : Nat} {M M' : Mem} (h : Ext M M') (hb : M.next ≤ b) (hb' : b ≤ M'.next) : ∀ id k, M.get id = some k → (Go.Am.cut b M').get id = some k := fun id k hg => (cut_get hb').2 ⟨Nat.lt_of_lt_of_le (get_spec.1 hg).1 hb, h.old hg⟩
def TC (P : Program) (GL : List Nat) (f : FuncId) (Q : List Value → Mem → Value → Mem → Prop) : List Value → Mem → Value → Mem → Prop := fun args M v M' => Ev P GL f args M v M' ∧ Q args M v M'
theorem TC.ok {f : FuncId} {Q : List Value → Mem → Value → Mem → Prop} (B : Bd) : SpecOk P GL B f (pick (TC P GL f Q)) := SpecOk.pick fun _ _ _ _ h => h.1
theorem mem_belowT {n t : Nat} : ∀ {l : List Nat}, t ∈ below n l → t ∈ l
  | [], h => by cases h
  | x :: l, h => by
    unfold below at h
    cases hx : Nat.blt x n <;> rw [hx] at h
    · exact List.mem_cons_of_mem _ (mem_belowT h)
    · rcases List.mem_cons.1 h with rfl | h
      · exact List.mem_cons_self ..
      · exact List.mem_cons_of_mem _ (mem_belowT h)
theorem call_tn {f : FuncId} {Q : List Value → Mem → Value → Mem → Prop} {args : List Value} {M M0 : Mem} {b : Nat} (hM : MemOk M) (X : Ext M0 M) (hb : M0.next ≤ b) (hbn : b ≤ M.next)
    (hK : ∃ v M', TC P GL f Q args { M with log := [] } v M') (hT : ∀ v M', Q args { M with log := [] } v M' → Ext (cut b { M with log := [] }) M') :
    ∃ t v M' M1, (∀ SP : Specs, SP.calls f = some (pick (TC P GL f Q)) → OQ.holds P SP (.cl f args M ((bif t then 1 else 2), .val v, M1))) ∧ Ext M0 M1 ∧ MemOk M1 ∧ M.next ≤ M1.next ∧ Q args { M with log := [] } v M' ∧ ∀ id, M1.get id = M'.get id := by
  obtain ⟨v, M', h1, h2, h3⟩ := pick_spec hK
  have hE := hT v M' h3
  obtain ⟨L0, ha⟩ := h2.abs
  have hn : M.next ≤ M'.next := ha.next
  have hh : M'.hide = M.hide := hE.hide
  obtain ⟨L, k1, k2⟩ := hE.log
  have k1' : M'.log = L := by rw [k1]; exact List.append_nil L
  obtain ⟨L1, j1, j2⟩ := X.log
  have key : ∀ l : List Nat, (∀ t ∈ l, b ≤ t) → Ext M0 { M' with log := l ++ M.log, hide := M.hide } ∧ MemOk { M' with log := l ++ M.log, hide := M.hide } ∧ ∀ id, ({ M' with log := l ++ M.log, hide := M.hide } : Mem).get id = M'.get id := fun l hl => by
    have hg : ∀ id, ({ M' with log := l ++ M.log, hide := M.hide } : Mem).get id = M'.get id := fun id => by
      unfold Mem.get Mem.getA
      simp only [hh]
    refine ⟨⟨Nat.le_trans X.next hn, X.hide, fun id hid => ?_, l ++ L1, by show l ++ M.log = _; rw [j1, List.append_assoc], fun t ht => ?_⟩, fun id hid => Nat.lt_of_lt_of_le (hM id hid) hn, hg⟩
    · rw [hg, hE.get id (Nat.lt_of_lt_of_le hid hb), cut_get_lt (M := { M with log := [] }) hbn (Nat.lt_of_lt_of_le hid hb)]
      exact X.get id hid
    · rcases List.mem_append.1 ht with ht | ht
      · exact Nat.le_trans hb (hl t ht)
      · exact j2 t ht
  cases hl : below M.next M'.log with
  | nil =>
    obtain ⟨q1, q2, q3⟩ := key [] (fun t ht => by cases ht)
    refine ⟨true, v, M', { M' with log := [] ++ M.log, hide := M.hide }, fun SP hs => ⟨?_, by simp⟩, q1, q2, hn, h3, q3⟩
    unfold acall onlySpecs viaSpecs
    rw [hs]
    simp only [h1, hl]
    rfl
  | cons x l =>
    obtain ⟨q1, q2, q3⟩ := key (x :: l) (fun t ht => by rw [← hl] at ht; have := mem_belowT ht; rw [k1'] at this; exact k2 t this)
    refine ⟨false, v, M', { M' with log := (x :: l) ++ M.log, hide := M.hide }, fun SP hs => ⟨?_, by simp⟩, q1, q2, hn, h3, q3⟩
    unfold acall onlySpecs viaSpecs
    rw [hs]
    simp only [h1, hl]
    rfl
abbrev oU (P : Program) (tb : List Nat) (n : Nat) (fn : Func) (q : QC) (args : List Value) (M : Mem) (F : List OF) := (oexec P [] tb n fn.ntmps q (initT args 0 .nil) M F 0).map (fun r => (r.1.1, r.1.2.2, r.2.2.2))
theorem Ev.told_none {SP : Specs} (hN : noNum P) (hm : P.follows .mixedOrders = true) {f : FuncId} {fn : Func} {q : QC} {tb : List Nat} {n : Nat} {args : List Value} {M M' : Mem} {F : List OF} {e : AExit} {qs : OCol}
    (hf : P.funcs[f]? = some fn) (hq : bodyComp P f = some q) (hl : Nat.ble args.length fn.ntmps = true) (hr : fn.results = #[]) (hS : ∀ B, SpecsOk P [] B SP) (hB : ∀ id, elemN id tb = false → SP.blocks id = none)
    (hx : oU P tb n fn q args M F = some (e, M', qs)) (he : e = .ret ∨ e = .normal) (hh : OHold P SP qs) :
    Ev P [] f args M (.tuple #[]) M' := by
  refine Ev.told hN hm hf hq hl hS hB (e := e) (n := n) (F := F) (qs := qs) ?_ he hh
  unfold oU at hx
  cases hr0 : oexec P [] tb n fn.ntmps q (initT args 0 .nil) M F 0 with
  | none => rw [hr0] at hx; cases hx
  | some r =>
    rw [hr0] at hx
    simp only [Option.map_some, Option.some.injEq, Prod.mk.injEq] at hx ⊢
    refine ⟨hx.1, ?_, hx.2⟩
    unfold aresults
    rw [hr]
    rfl
end Go.Am
end

set_option linter.unusedVariables false
set_option linter.unusedSimpArgs false
noncomputable section
set_option linter.unusedVariables false
namespace Go.Am
open Go
def Edg (a : AdjM) (ms u w : Int) : Prop := ∃ j ∈ rowV a.out u, andI ((a.set[j.toNat]?).getD 0) ms ≠ 0 ∧ (a.to[j.toNat]?).getD 0 = w
inductive RP (a : AdjM) (ms : Int) : Int → Int → Prop where
  | refl (v : Int) : RP a ms v v
  | step {v w u : Int} : Edg a ms v w → RP a ms w u → RP a ms v u
theorem RP.trans {a : AdjM} {ms u v w : Int} (h : RP a ms u v) (k : RP a ms v w) : RP a ms u w := by
  induction h with
  | refl _ => exact k
  | step e _ ih => exact .step e (ih k)
def Mk (m : List Bool) (w : Int) : Prop := 0 ≤ w → w.toNat < m.length → m[w.toNat]? = some true
structure Spr (a : AdjM) (ms v : Int) (m m' : List Bool) : Prop where
  len : m'.length = m.length
  up : ∀ u : Nat, m[u]? = some true → m'[u]? = some true
  own : Mk m' v
  new : ∀ u : Nat, m[u]? = some false → m'[u]? = some true → (∀ w, Edg a ms (u : Int) w → Mk m' w) ∧ RP a ms v (u : Int)
structure SprI (a : AdjM) (ms v : Int) (r : List Int) (m0 : List Bool) (i : Nat) (m : List Bool) : Prop where
  len : m.length = m0.length
  up : ∀ u : Nat, m0[u]? = some true → m[u]? = some true
  new : ∀ u : Nat, m0[u]? = some false → m[u]? = some true → (∀ w, Edg a ms (u : Int) w → Mk m w) ∧ RP a ms v (u : Int)
  did : ∀ j ∈ r.take i, andI ((a.set[j.toNat]?).getD 0) ms ≠ 0 → Mk m ((a.to[j.toNat]?).getD 0)
variable {a : AdjM} {ms v : Int}
theorem Mk.up {m m' : List Bool} {w : Int} (hl : m'.length = m.length) (hu : ∀ u : Nat, m[u]? = some true → m'[u]? = some true) (h : Mk m w) : Mk m' w := fun h0 h1 => hu _ (h h0 (by omega))
theorem Spr.same {m : List Bool} (h : Mk m v) : Spr a ms v m m := ⟨rfl, fun _ h => h, h, fun u h1 h2 => by rw [h1] at h2; cases h2⟩
theorem SprI.zero {r : List Int} {m0 : List Bool} : SprI a ms v r m0 0 m0 := ⟨rfl, fun _ h => h, (fun u h1 h2 => by rw [h1] at h2; cases h2), (fun j hj => by simp at hj)⟩
theorem SprI.skip {r : List Int} {m0 m : List Bool} {i : Nat} (h : SprI a ms v r m0 i m) {j : Int} (hj : r[i]? = some j) (h0 : andI ((a.set[j.toNat]?).getD 0) ms = 0) : SprI a ms v r m0 (i + 1) m :=
  ⟨h.len, h.up, h.new, fun x hx => by
    rw [List.take_add_one, hj] at hx
    rcases List.mem_append.1 hx with hx | hx
    · exact h.did x hx
    · simp only [Option.toList, List.mem_singleton] at hx
      subst hx
      exact fun hh => absurd h0 hh⟩
theorem SprI.call {m0 m m' : List Bool} {i : Nat} (h : SprI a ms v (rowV a.out v) m0 i m) {j : Int} (hj : (rowV a.out v)[i]? = some j) (h0 : andI ((a.set[j.toNat]?).getD 0) ms ≠ 0) (hs : Spr a ms ((a.to[j.toNat]?).getD 0) m m') : SprI a ms v (rowV a.out v) m0 (i + 1) m' := by
  have hm : ∀ w, Mk m w → Mk m' w := fun w hw => hw.up hs.len hs.up
  refine ⟨hs.len.trans h.len, fun u hu => hs.up u (h.up u hu), fun u h1 h2 => ?_, fun x hx => ?_⟩
  · cases hb : m[u]? with
    | none =>
      have h3 := List.getElem?_eq_none_iff.1 hb
      have h4 : m'[u]? = none := List.getElem?_eq_none (by rw [hs.len]; exact h3)
      rw [h4] at h2; cases h2
    | some b =>
      cases b with
      | true =>
        obtain ⟨k1, k2⟩ := h.new u h1 hb
        exact ⟨fun w hw => hm w (k1 w hw), k2⟩
      | false =>
        obtain ⟨k1, k2⟩ := hs.new u hb h2
        exact ⟨k1, .step ⟨j, List.mem_of_getElem? hj, h0, rfl⟩ k2⟩
  · rw [List.take_add_one, hj] at hx
    rcases List.mem_append.1 hx with hx | hx
    · exact fun hh => hm _ (h.did x hx hh)
    · simp only [Option.toList, List.mem_singleton] at hx
      subst hx
      exact fun _ => hs.own
theorem SprI.fin {m m' : List Bool} {u : Nat} (hu : m[u]? = some false) (h : SprI a ms (u : Int) (rowV a.out (u : Int)) (m.set u true) (rowV a.out (u : Int)).length m') : Spr a ms (u : Int) m m' := by
  have hl : u < m.length := (List.getElem?_eq_some_iff.1 hu).1
  have hm : m'[u]? = some true := h.up u (by rw [List.getElem?_set_self hl])
  refine ⟨by rw [h.len, List.length_set], fun x hx => h.up x ?_, fun _ _ => by simpa using hm, fun x h1 h2 => ?_⟩
  · by_cases e : u = x
    · subst e; rw [List.getElem?_set_self hl]
    · rw [List.getElem?_set_ne e]; exact hx
  · by_cases e : u = x
    · subst e
      refine ⟨fun w hw => ?_, .refl _⟩
      obtain ⟨j, k1, k2, rfl⟩ := hw
      exact h.did j (by rw [List.take_length]; exact k1) k2
    · exact h.new x (by rw [List.getElem?_set_ne e]; exact h1) h2
theorem cnt_up : ∀ {m m' : List Bool}, m'.length = m.length → (∀ u : Nat, m[u]? = some true → m'[u]? = some true) → m'.count false ≤ m.count false
  | [], m', h, _ => by rw [List.eq_nil_of_length_eq_zero h]; simp
  | b :: m, [], h, _ => by simp at h
  | b :: m, b' :: m', h, hu => by
    have ih := cnt_up (m := m) (m' := m') (by simpa using h) fun u hh => by simpa using hu (u + 1) (by simpa using hh)
    have h0 := hu 0
    simp only [List.getElem?_cons_zero, Option.some.injEq] at h0
    rw [List.count_cons, List.count_cons]
    cases b <;> cases b' <;> simp at h0 ⊢ <;> omega
theorem cnt_set : ∀ {m : List Bool} {u : Nat}, m[u]? = some false → (m.set u true).count false < m.count false
  | [], u, h => by simp at h
  | b :: m, 0, h => by
    simp only [List.getElem?_cons_zero, Option.some.injEq] at h
    subst h
    simp
  | b :: m, u + 1, h => by
    have := cnt_set (m := m) (u := u) (by simpa using h)
    rw [List.set_cons_succ, List.count_cons, List.count_cons]
    omega
def okR (a : AdjM) : Prop := okA a ∧ a.to.length = a.set.length
def asSp (ty : TypeId) (x : AdjM × Int × Int × Nat × List Bool) (l : List Value) (M : Mem) : Prop := ∃ p c, l = [p, i64 x.2.1, i64 x.2.2.1, sli x.2.2.2.1 0 x.2.2.2.2.length c] ∧ pAdj ty x.1 p (cut x.2.2.2.1 M) ∧ M.get x.2.2.2.1 = some ⟨x.2.2.2.2.map .bool, 4, 1, 0, true⟩ ∧ okR x.1 ∧ x.2.2.2.2.length = x.1.out.length
theorem bools_inj {m m' : List Bool} (h : m.map Value.bool = m'.map Value.bool) : m = m' := (List.map_inj_right (fun x y h => by simpa using h)).1 h
theorem set_splice {m : List Bool} {v : Int} (h : v.toNat < m.length) : splice (m.map Value.bool) (0 + v.toNat * 1) [.bool true] = (m.set v.toNat true).map .bool := by
  rw [Nat.zero_add, Nat.mul_one, splice_one _ _ _ (by simpa using h), List.map_set]
theorem asSp.uniq {ty : TypeId} {x y : AdjM × Int × Int × Nat × List Bool} {l : List Value} {M : Mem} (h : asSp ty x l M) (k : asSp ty y l M) : x = y := by
  obtain ⟨a, v, ms, b, m⟩ := x
  obtain ⟨a', v', ms', b', m'⟩ := y
  obtain ⟨p, c, h1, h2, h3, _⟩ := h
  obtain ⟨q, d, k1, k2, k3, _⟩ := k
  rw [h1] at k1
  simp only [List.cons.injEq, Value.slice.injEq, Option.some.injEq, Addr.mk.injEq, and_true, i64, Value.int.injEq, true_and] at k1
  obtain ⟨rfl, rfl, rfl, rfl, _⟩ := k1
  simp only at h2 h3 k2 k3
  rw [h3] at k3
  simp only [Option.some.injEq, ABlk.mk.injEq, and_true] at k3
  obtain rfl := bools_inj k3
  obtain rfl := AP.uniq (R := pAdj ty) h2 k2
  rfl
theorem asSp.log {ty : TypeId} {x : AdjM × Int × Int × Nat × List Bool} {l : List Value} {M : Mem} (h : asSp ty x l M) : asSp ty x l { M with log := [] } := by
  obtain ⟨p, c, h1, h2, h3, h4⟩ := h
  exact ⟨p, c, h1, AP.ext (R := pAdj ty) (M := cut x.2.2.2.1 M) (M' := cut x.2.2.2.1 { M with log := [] }) (fun _ _ hg => hg) h2, h3, h4⟩
def QSp (ty : TypeId) (l : List Value) (M : Mem) (_ : Value) (M' : Mem) : Prop := ∃ x m', asSp ty x l M ∧ Spr x.1 x.2.2.1 x.2.1 x.2.2.2.2 m' ∧ M'.get x.2.2.2.1 = some ⟨m'.map .bool, 4, 1, 0, true⟩ ∧ Ext (cut x.2.2.2.1 M) M' ∧ ∀ id k, M.get id = some k → id ≠ x.2.2.2.1 → M'.get id = some k
theorem call_sp {P : Program} {ty : TypeId} {f : FuncId} {x : AdjM × Int × Int × Nat × List Bool} {l : List Value} {M M0 : Mem} (hM : MemOk M) (X : Ext M0 M) (hb : M0.next ≤ x.2.2.2.1) (h : asSp ty x l M) (hK : ∃ v M', TC P [] f (QSp ty) l { M with log := [] } v M') :
    ∃ t v m' M1, (∀ SP : Specs, SP.calls f = some (pick (TC P [] f (QSp ty))) → OQ.holds P SP (.cl f l M ((bif t then 1 else 2), .val v, M1))) ∧ Ext M0 M1 ∧ MemOk M1 ∧ M.next ≤ M1.next ∧ M1.get x.2.2.2.1 = some ⟨m'.map .bool, 4, 1, 0, true⟩ ∧ (∀ id k, M.get id = some k → id ≠ x.2.2.2.1 → M1.get id = some k) ∧ Spr x.1 x.2.2.1 x.2.1 x.2.2.2.2 m' := by
  have hlt : x.2.2.2.1 ≤ M.next := by obtain ⟨_, _, _, _, h3, _⟩ := h; exact Nat.le_of_lt (Mem.lt_of_get h3)
  obtain ⟨t, v, M', M1, h1, h2, h3, h4, ⟨y, m', k1, k2, k3, k4, k5⟩, h6⟩ := call_tn hM X hb hlt hK (fun v M' ⟨y, m', k1, _, _, k4, _⟩ => by rw [h.log.uniq k1]; exact k4)
  obtain rfl := h.log.uniq k1
  exact ⟨t, v, m', M1, h1, h2, h3, h4, by rw [h6]; exact k3, fun id k hg hid => by rw [h6]; exact k5 id k hg hid, k2⟩
def trueTo (m : List Bool) (i : Nat) : List Int := (List.range i).filterMap fun u => if m[u]? = some true then some ((u : Nat) : Int) else none
theorem trueTo_succ (m : List Bool) (i : Nat) : trueTo m (i + 1) = trueTo m i ++ (if m[i]? = some true then [((i : Nat) : Int)] else []) := by
  unfold trueTo
  rw [List.range_succ, List.filterMap_append]
  by_cases h : m[i]? = some true <;> simp [h]
theorem trueTo_len (m : List Bool) (i : Nat) : (trueTo m i).length ≤ i := by
  have := List.length_filterMap_le (fun u : Nat => if m[u]? = some true then some ((u : Nat) : Int) else none) (List.range i)
  simpa [trueTo] using this
open Classical in
def reachL (a : AdjM) (ms v : Int) : List Int := (List.range a.out.length).filterMap fun u => if RP a ms v ((u : Nat) : Int) ∧ 0 ≤ v ∧ v.toNat < a.out.length then some ((u : Nat) : Int) else none
theorem edg_out {a : AdjM} {ms v w : Int} (h : Edg a ms v w) : 0 ≤ v ∧ v < (a.out.length : Int) := by
  obtain ⟨j, h1, _⟩ := h
  unfold rowV at h1
  split at h1
  · rename_i h0
    refine ⟨h0, ?_⟩
    by_cases hh : v.toNat < a.out.length
    · omega
    · rw [List.getElem?_eq_none (by omega)] at h1; cases h1
  · cases h1
theorem filterMap_same {α β : Type} {f g : α → Option β} : ∀ {l : List α}, (∀ x ∈ l, f x = g x) → l.filterMap f = l.filterMap g
  | [], _ => rfl
  | x :: l, h => by
    have ih := filterMap_same (l := l) fun y hy => h y (List.mem_cons_of_mem _ hy)
    have hx := h x (List.mem_cons_self ..)
    simp only [List.filterMap_cons, hx, ih]
theorem reach_marks {a : AdjM} {ms v : Int} {m' : List Bool} (h : Spr a ms v (List.replicate a.out.length false) m') : trueTo m' a.out.length = reachL a ms v := by
  unfold trueTo reachL
  apply filterMap_same
  intro u hu
  have hu' : u < a.out.length := List.mem_range.1 hu
  have hlen : m'.length = a.out.length := by rw [h.len, List.length_replicate]
  have h0 : (List.replicate a.out.length false)[u]? = some false := by rw [List.getElem?_replicate, if_pos hu']
  have key : m'[u]? = some true ↔ RP a ms v ((u : Nat) : Int) ∧ 0 ≤ v ∧ v.toNat < a.out.length := by
    constructor
    · intro hm
      have h2 := (h.new u h0 hm).2
      refine ⟨h2, ?_⟩
      cases h2 with
      | refl => omega
      | step e _ => have := edg_out e; omega
    · rintro ⟨h1, h2, h3⟩
      have cl : ∀ x y : Int, RP a ms x y → Mk m' x → Mk m' y := fun x y hr => by
        induction hr with
        | refl _ => exact id
        | @step x w y e _ ih =>
          intro hx
          refine ih ?_
          have hx2 := edg_out e
          have hxm := hx hx2.1 (by omega)
          have h4 : (List.replicate a.out.length false)[x.toNat]? = some false := by rw [List.getElem?_replicate, if_pos (by omega)]
          have hxx : ((x.toNat : Nat) : Int) = x := by omega
          have := (h.new x.toNat h4 hxm).1
          rw [hxx] at this
          exact this w e
      have := cl v _ h1 h.own (by omega) (by omega)
      simpa using this
  by_cases hk : m'[u]? = some true
  · rw [if_pos hk, if_pos (key.1 hk)]
  · rw [if_neg hk, if_neg (fun hh => hk (key.2 hh))]
end Go.Am
end

set_option linter.unusedVariables false
set_option linter.unusedSimpArgs false
noncomputable section
set_option linter.unusedVariables false
namespace Go.Am
open Go
theorem RP.mono {a : AdjM} {s t : Int} (h : ∀ j : Int, andI ((a.set[j.toNat]?).getD 0) s ≠ 0 → andI ((a.set[j.toNat]?).getD 0) t ≠ 0) {v u : Int} (hr : RP a s v u) : RP a t v u := by
  induction hr with
  | refl v => exact .refl v
  | step e _ ih => exact .step (by obtain ⟨j, h1, h2, h3⟩ := e; exact ⟨j, h1, h _ h2, h3⟩) ih
end Go.Am
end

set_option linter.unusedVariables false
set_option linter.unusedSimpArgs false
noncomputable section
set_option linter.unusedVariables false
namespace Go.Am
open Go
end Go.Am
end

set_option linter.unusedVariables false
set_option linter.unusedSimpArgs false
noncomputable section
set_option linter.unusedVariables false
namespace Go.Am
open Go
end Go.Am
end
