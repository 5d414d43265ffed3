/-
  Package hier: each of its laws for every argument; no conditions. The last text states which.
-/
import Derived.Test.YtdaglldahidmbaaAmE
import Derived.Test.YtdaglldahidmbaaGAmLoop
set_option linter.unusedVariables false
set_option linter.unusedSimpArgs false
noncomputable section
namespace Go.Am
open Go
variable {P : Program} {GL : List Nat} {B : Bd} {SP : Specs}
theorem hold_nilO : OHold P SP [] := fun p hp => by cases hp
theorem hold_consO {x : OQ} {q : OCol} (h : x.holds P SP) (hq : OHold P SP q) : OHold P SP (x :: q) := fun p hp => by
  rcases List.mem_cons.1 hp with rfl | hp
  · exact h
  · exact hq p hp
theorem q_bool {x t : Bool} (h : x = t) : OQ.holds P SP (.q (.bool x) (ansB t)) := by subst h; rfl
theorem q_inb {i : Int} {n : Nat} {a : Ans} (h0 : 0 ≤ i) (h1 : i < n) : OQ.holds P SP (.q (.inb i n) a) := by
  show inB i n = true
  simp [inB, h0, h1]
theorem q_eq {x : Out} {a : Ans} (h : x = some a) (ha : a.1 ≠ 0) : OQ.holds P SP (.eq x a) := ⟨h, ha⟩
theorem q_ld {t : TypeId} {a : Addr} {M Mx : Mem} {v : Value} {k : Nat} (h : aload P t a M = some v) : OQ.holds P SP (.q (.load t a M) (k, .val v, Mx)) := ⟨v, rfl, h⟩
theorem q_st {t : TypeId} {a : Addr} {v : Value} {M M1 : Mem} (h : astore P t a v M = some M1) : OQ.holds P SP (.q (.store t a v M) (2, .skip, M1)) := ⟨M1, rfl, h⟩
theorem q_blk {l : List (FuncId × (List Value → Mem → Option (Value × Mem)))} {bl : List (Nat × (Code → St → Option (AExit × St)))} {id : Nat} {b : QC} {nt : Nat} {ks : List Nat} {vs : List (Option Value)} {M M' : Mem} {e : AExit} {T' : Tr Value} (hb : blksF bl id = some (bone b nt ks vs M e T' M')) :
    OQ.holds P (specsB l bl) (.blk id b nt ks vs M e T' M') := bone_holds hb
theorem MemOk.ext {M M' : Mem} (h : MemOk M) (hE : Ext M M') : MemOk M' := fun id hid => Nat.lt_of_lt_of_le (h id (by rw [← hE.hide]; exact hid)) hE.next
theorem MemOk.log {M : Mem} {l : List Nat} (h : MemOk M) : MemOk { M with log := l } := h
theorem store_t {t : TypeId} {b o : Nat} {v : Value} {M M0 : Mem} {blk : ABlk} {n : Nat} {new : List Value} (hE : Ext M0 M) (hb : M0.next ≤ b) (hM : MemOk M) (hi : (P.info? t).map (·.size) = some n) (hg : M.get b = some blk) (hv : v.cells.toList.length = n) (hc : v.cells.toList.all isCell = true) (hw : blk.wf ≤ o) (hl : o + n ≤ blk.cs.length) (hn : splice blk.cs o v.cells.toList = new) :
    ∃ M1, astore P t ⟨b, o, none⟩ v M = some M1 ∧ M1.get b = some { blk with cs := new } ∧ (∀ id, id ≠ b → M1.get id = M.get id) ∧ Ext M0 M1 ∧ MemOk M1 ∧ M1.log = b :: M.log := by
  refine ⟨_, astore_at hi (a := ⟨b, o, none⟩) hg hv hc hw hl, ?_, fun id hid => put_other _ hid, hE.put _ hb, hM, rfl⟩
  obtain ⟨k1, k2, _, k4⟩ := get_spec.1 hg
  rw [put_same _ k1 k2, hn]
  have h5 : isMapB { blk with cs := new } = false := k4
  simp [rowO, h5]
def Con (P : Program) (GL : List Nat) (f : FuncId) (Q : List Value → Mem → Value → Mem → Prop) : List Value → Mem → Value → Mem → Prop := fun args M v M' => Ev P GL f args M v M' ∧ Ext M M' ∧ Q args M v M'
theorem Con.ok {f : FuncId} {Q : List Value → Mem → Value → Mem → Prop} (B : Bd) : SpecOk P GL B f (pick (Con P GL f Q)) := SpecOk.pick fun _ _ _ _ h => h.1
end Go.Am
end
noncomputable section
namespace Go.Am
open Go
variable {P : Program} {GL : List Nat} {B : Bd} {SP : Specs}
def QC.loopIn (id : Nat) : QC → Option QC
  | .seq a b => match a.loopIn id with | some r => some r | none => b.loopIn id
  | .cond _ a b => match a.loopIn id with | some r => some r | none => b.loopIn id
  | .block i b => bif Nat.beq i id then (match b with | .loop c => some c | _ => none) else b.loopIn id
  | .loop b => b.loopIn id
  | .scope b => b.loopIn id
  | _ => none
def QC.loopAt (q : QC) (id : Nat) : QC := (q.loopIn id).getD .bad
theorem Ev.told_tmp (hN : noNum P) (hm : P.follows .mixedOrders = true) {f : FuncId} {fn : Func} {q : QC} {tb : List Nat} {n k : Nat} {args : List Value} {M M' : Mem} {v : Value} {F : List OF} {qs : OCol}
    (hf : P.funcs[f]? = some fn) (hq : bodyComp P f = some q) (hl : Nat.ble args.length fn.ntmps = true) (hr : fn.results = #[.tmp k]) (hS : ∀ B, SpecsOk P GL B SP) (hB : ∀ id, elemN id tb = false → SP.blocks id = none)
    (hx : (oexec P GL tb n fn.ntmps q (initT args 0 .nil) M F 0).map (fun r => (r.1.1, r.1.2.1.get k, r.1.2.2, r.2.2.2)) = some (.ret, some v, M', qs)) (hh : OHold P SP qs) :
    Ev P GL f args M v M' := by
  refine Ev.told hN hm hf hq hl hS hB (e := .ret) (n := n) (F := F) (qs := qs) ?_ (.inl rfl) hh
  cases hr0 : oexec P GL tb n fn.ntmps q (initT args 0 .nil) M F 0 with
  | none => rw [hr0] at hx; cases hx
  | some r =>
    rw [hr0] at hx
    simp only [Option.map_some, Option.some.injEq, Prod.mk.injEq] at hx ⊢
    refine ⟨hx.1, ?_, hx.2.2⟩
    unfold aresults
    rw [hr]
    simp only [aresL, ares1, hx.2.1]
theorem Mem.lt_of_get {M : Mem} {id : Nat} {b : ABlk} (h : M.get id = some b) : id < M.next := (get_spec.1 h).1
end Go.Am
end
noncomputable section
namespace Go.Am
open Go
theorem blksF_one {id k : Nat} {g : Code → St → Option (AExit × St)} (h : elemN id [k] = false) : blksF [(k, g)] id = none := by
  unfold blksF
  have : Nat.beq id k = false := by
    cases hb : Nat.beq id k
    · rfl
    · have := Nat.eq_of_beq_eq_true hb
      subst this
      simp [elemN] at h
  rw [this]
  rfl
end Go.Am
end
noncomputable section
namespace Go.Am
open Go
end Go.Am
end
noncomputable section
namespace Go.Am
open Go
variable {P : Program}
def elemOf (P : Program) (t : TypeId) : Option (Nat × Nat × Bool) := (P.info? t).map fun e => (e.size, e.bytes, zeroOk e)
end Go.Am
end
noncomputable section
namespace Go.Am
open Go
end Go.Am
end
noncomputable section
namespace Go.Am
open Go
variable {P : Program} {SP : Specs}
abbrev qT (x : Bool) : OQ := .q (.bool x) (ansB true)
abbrev qF (x : Bool) : OQ := .q (.bool x) (ansB false)
abbrev qL (t : TypeId) (b o : Nat) (M : Mem) (v : Value) : OQ := .q (.load t ⟨b, o, none⟩ M) (1, .val v, noMem)
abbrev qS (t : TypeId) (b o : Nat) (v : Value) (M M1 : Mem) : OQ := .q (.store t ⟨b, o, none⟩ v M) (2, .skip, M1)
abbrev ttT (p : Nat) : OF := .at p (ansB true)
abbrev ttF (p : Nat) : OF := .at p (ansB false)
abbrev ttL (p : Nat) (v : Value) : OF := .at p (1, .val v, noMem)
abbrev ttV (p : Nat) (v : Value) (M : Mem) : OF := .at p (1, .val v, M)
abbrev ttS (p : Nat) (M : Mem) : OF := .at p (2, .skip, M)
abbrev sli (b o n c : Nat) : Value := .slice (some ⟨b, o, none⟩) n c
abbrev sln : Value := .slice none 0 0
theorem hk {x : OQ} {q : OCol} (h : x.holds P SP) (hq : OHold P SP q) : OHold P SP (x :: q) := hold_consO h hq
theorem hn : OHold P SP [] := hold_nilO
theorem bT {x : Bool} (h : x = true) : OQ.holds P SP (qT x) := q_bool h
theorem bF {x : Bool} (h : x = false) : OQ.holds P SP (qF x) := q_bool h
end Go.Am
end
noncomputable section
namespace Go.Am
open Go
abbrev oT (P : Program) (tb : List Nat) (n : Nat) (fn : Func) (q : QC) (args : List Value) (M : Mem) (F : List OF) (k : Nat) := (oexec P [] tb n fn.ntmps q (initT args 0 .nil) M F 0).map (fun r => (r.1.1, r.1.2.1.get k, r.1.2.2, r.2.2.2))
abbrev oR (P : Program) (tb : List Nat) (n : Nat) (fn : Func) (q : QC) (T : List (Nat × Value)) (M : Mem) (F : List OF) (ks : List Nat) := (oexec P [] tb n fn.ntmps q (fr T) M F 0).map (fun r => (r.1.1, ks.map r.1.2.1.get, r.1.2.2, r.2.2.2))
theorem specs_none (P : Program) (B : Bd) : SpecsOk P [] B (specsB [] []) := specsB_ok (fun p hp => by cases hp) (fun p hp => by cases hp)
end Go.Am
end
noncomputable section
namespace Go.Am
open Go
theorem lN {P : Program} {SP : Specs} {a : Option Addr} {n c : Nat} (h : a.isNone = true → n = 0 ∧ c = 0) : OQ.holds P SP (.ln a n c) := h
end Go.Am
end
