/-
  THE ABSTRACT MACHINE: short words for texts over it: facts, rows of integers, the inside of a loop.
-/
import Derived.Test.YtchnlooenomfnaaGreatDoorGAmView
import Derived.Test.YtchnlooenomfnaaGreatDoorAmKit
import Derived.Test.YtchnlooenomfnaaGreatDoorAmMut
import Derived.IntWalk
import Derived.KernelRfl
noncomputable section
namespace Go.Am
open Go

variable {P : Program} {GL : List Nat} {B : Bd}

def noDoors : Nat → Door := fun _ => ⟨0, 0, [], [], [], []⟩
abbrev i64 (z : Int) : Value := .int .i64 z
abbrev pt (b o : Nat) : Value := .pointer (some ⟨b, o, none⟩)
def tru (pt : Nat) : Fact := ⟨pt, .bool true, ansB true⟩
def fls (pt : Nat) : Fact := ⟨pt, .bool true, ansB false⟩
def got (pt : Nat) (v : Value) : Fact := ⟨pt, .bool true, (1, .val v, noMem)⟩
def onto (pt : Nat) (old : List Value) : Fact := ⟨pt, .bool true, (3, .val (.agg ⟨old⟩), noMem)⟩
def madeB (pt : Nat) (v : Value) (b : ABlk) : Fact := ⟨pt, .bool true, (4, .val v, ⟨blkTree [(0, b)], 0, [], []⟩)⟩
def past (pt : Nat) (e : AExit) (s : St) : Fact := ⟨pt, .blk 0 .skip ⟨.nil, 0, noMem⟩ e s, ansB true⟩
def mcl (pt : Nat) (v : Value) (olds : List (Nat × Option ABlk)) (news : List ABlk) : Fact := ⟨pt, .mcall 0 [] noMem v olds news, ansB true⟩
abbrev sl (id n : Nat) : Value := .slice (some ⟨id, 0, none⟩) n n
abbrev ro (cs : List Value) (elem esz : Nat) : ABlk := ⟨cs, elem, esz, cs.length, false⟩
abbrev own (cs : List Value) (elem esz : Nat) : ABlk := ⟨cs, elem, esz, 0, true⟩

/- A block's inside, and a loop's. -/
def inner (id : Nat) : Nat → Code → Option Code
  | 0, _ => none
  | n + 1, .seq a b => match inner id n a with | some c => some c | none => inner id n b
  | n + 1, .block i b => bif Nat.beq i id then some b else inner id n b
  | n + 1, .loop b => inner id n b
  | n + 1, .cond _ a b => match inner id n a with | some c => some c | none => inner id n b
  | n + 1, .scope c => inner id n c
  | _, _ => none
def unloop : Code → Code
  | .loop b => b
  | c => c

/- Rows of integers. -/
def ints (l : List Int) : List Value := l.map i64
theorem ints_len (l : List Int) : (ints l).length = l.length := by simp [ints]
theorem ints_flat : ∀ (l : List Int), flatL (ints l) = true
  | [] => rfl
  | _ :: l => by simp only [ints, List.map_cons, flatL, flat, Bool.true_and]; exact ints_flat l
theorem ints_get {l : List Int} {i : Nat} {z : Int} (h : l[i]? = some z) : (ints l)[i]? = some (i64 z) := by simp [ints, h]
theorem ints_cells (l : List Int) : (ints l).all isCell = true := by simp [ints, isCell]
theorem ints_snoc (l : List Int) (x : Int) : ints (l ++ [x]) = ints l ++ [i64 x] := by simp [ints]
theorem ints_set (l : List Int) (n : Nat) (x : Int) : ints (l.set n x) = (ints l).set n (i64 x) := by simp [ints, List.map_set]
theorem ints_rep (n : Nat) (x : Int) : ints (List.replicate n x) = List.replicate n (i64 x) := by simp [ints]

/- A remainder that is no less than nothing. -/
def modI (x n : Int) : Int := if x.tmod n < 0 then x.tmod n + n else x.tmod n
theorem modI_range {x n : Int} (hn : 0 < n) : 0 ≤ modI x n ∧ modI x n < n := by
  have hlt : x.tmod n < n := Int.tmod_lt_of_pos x hn
  have hgt : -n < x.tmod n := Int.lt_tmod_of_pos x hn
  unfold modI
  split <;> omega
theorem modI_neg {x n : Int} (hn : 0 < n) (hn2 : n < 2 ^ 62) (h : x.tmod n < 0) : IntKind.wrap .i64 (x.tmod n + n) = modI x n := by
  have hgt : -n < x.tmod n := Int.lt_tmod_of_pos x hn
  rw [IntWalk.i64_in _ (by omega)]
  unfold modI; rw [if_pos h]
theorem modI_pos {x n : Int} (h : ¬ x.tmod n < 0) : x.tmod n = modI x n := by
  unfold modI; rw [if_neg h]

theorem SpecOk.sub {f : FuncId} {g g' : List Value → Mem → Option (Value × Mem)} (h : SpecOk P GL B f g) (hs : ∀ args M r, g' args M = some r → g args M = some r) : SpecOk P GL B f g' :=
  ⟨fun args M v M' hg => h.abs args M v M' (hs _ _ _ hg), fun args M v M' hg => h.run args M v M' (hs _ _ _ hg)⟩

/- Within(x, n), as told. -/
def gMod (args : List Value) (M : Mem) : Option (Value × Mem) :=
  match args with
  | [.int .i64 x, .int .i64 n] => bif decide (0 < n) && decide (n < 2 ^ 62) then some (i64 (modI x n), M) else none
  | _ => none
theorem call_mod {SP : Specs} {f : FuncId} (hS : SP.calls f = some gMod) {x n v : Int} (hn : 0 < n) (hn2 : n < 2 ^ 62) (hv : modI x n = v) (M : Mem) : acall (onlySpecs SP) f [i64 x, i64 n] M = some (1, .val (i64 v), M) := by
  subst hv
  unfold acall onlySpecs viaSpecs
  rw [hS]
  have : (decide (0 < n) && decide (n < 2 ^ 62)) = true := by rw [decide_eq_true hn, decide_eq_true hn2]; rfl
  simp only [gMod, this, cond_true]
  rfl
theorem SpecOk.mod {f : FuncId} (hr : ∀ B, ∀ (x n : Int) (M : Mem), 0 < n → n < 2 ^ 62 → ∃ SP k, SpecsOk P GL B SP ∧ Go.Am.arun P GL SP k f [i64 x, i64 n] M = some (i64 (modI x n), M))
    (hN : noNum P) (hm : P.follows .mixedOrders = true) : SpecOk P GL B f gMod := by
  have key : ∀ args M v M', gMod args M = some (v, M') → ∃ SP k, SpecsOk P GL B SP ∧ Go.Am.arun P GL SP k f args M = some (v, M') := fun args M v M' h => by
    unfold gMod at h
    split at h
    · rename_i x n
      cases hb : (decide (0 < n) && decide (n < 2 ^ 62)) <;> rw [hb] at h <;> simp only [cond_true, cond_false] at h
      · cases h
      · cases h
        simp only [Bool.and_eq_true, decide_eq_true_eq] at hb
        exact hr B x n M hb.1 hb.2
    · cases h
  refine ⟨fun args M v M' h => ?_, fun args M v M' h => ?_⟩
  · obtain ⟨SP, k, hS, h1⟩ := key args M v M' h
    exact (SpecOk.arun hN hm hS k f).abs args M v M' h1
  · obtain ⟨SP, k, hS, h1⟩ := key args M v M' h
    exact (SpecOk.arun hN hm hS k f).run args M v M' h1

/- What was told, held. -/
theorem qd {SP : Specs} {D : Nat → Door} {ids : List Nat} {p : Prop} [Decidable p] (h : p) : (QV.b (decide p) (.val (.bool true))).holds P SP D ids := by simp only [QV.holds]; rw [decide_eq_true h]
theorem qdn {SP : Specs} {D : Nat → Door} {ids : List Nat} {p : Prop} [Decidable p] (h : ¬ p) : (QV.b (decide p) (.val (.bool false))).holds P SP D ids := by simp only [QV.holds]; rw [decide_eq_false h]
theorem qb {SP : Specs} {D : Nat → Door} {ids : List Nat} {b t : Bool} (h : b = t) : (QV.b b (.val (.bool t))).holds P SP D ids := by simp only [QV.holds]; rw [h]
theorem qib {SP : Specs} {D : Nat → Door} {ids : List Nat} {i : Int} {n : Nat} (h : 0 ≤ i ∧ i < n) : (QV.ib i n).holds P SP D ids := by simp only [QV.holds, inB, Bool.and_eq_true, decide_eq_true_eq]; exact h
theorem qnz {SP : Specs} {D : Nat → Door} {ids : List Nat} {q : Int} (h : q ≠ 0) : (QV.nz q).holds P SP D ids := h
theorem aloadB_cell {t : TypeId} {d : TypeDesc} (hu : P.underlying t = some d) (hd : isAggD d = false) (off : Nat) (b : ABlk) : aloadB P t off (some b) = b.cs[off]? := by
  unfold aloadB
  simp only [hu, hd, cond_false]
theorem qld {SP : Specs} {D : Nat → Door} {ids : List Nat} {t : TypeId} {d : TypeDesc} {off : Nat} {b : ABlk} {v : Value} (hu : P.underlying t = some d) (hd : isAggD d = false) (h : b.cs[off]? = some v) : (QV.ld t off (some b) (.val v)).holds P SP D ids :=
  ⟨v, rfl, by rw [aloadB_cell hu hd]; exact h⟩
/- A cell of a row of integers, as an index finds it. -/
theorem qldi {SP : Specs} {D : Nat → Door} {ids : List Nat} {t : TypeId} {d : TypeDesc} {i : Int} {l : List Int} {z : Int} {e z1 w : Nat} {a : Bool} (hu : P.underlying t = some d) (hd : isAggD d = false) (h : l[i.toNat]? = some z) :
    (QV.ld t (0 + (i : Int).toNat * 1) (some ⟨ints l, e, z1, w, a⟩) (.val (i64 z))).holds P SP D ids :=
  qld hu hd (by rw [Nat.zero_add, Nat.mul_one]; exact ints_get h)

/- Room left behind a state. -/
def up (s : St) (k : Nat) : St := { s with M := { s.M with next := k } }
theorem view_up {n0 nx k : Nat} {mv : Moves} {keep L lg : List Nat} {s t : St} (hk : nx ≤ k) (h : View n0 nx mv keep L lg s t) : View n0 k mv keep L lg s (up t k) := by
  obtain ⟨h1, h2⟩ := h
  refine ⟨?_, h2⟩
  unfold rebase at h1 ⊢
  split at h1
  · rename_i hh
    try rw [hh]
    try simp only
    generalize hc : (Nat.ble n0 nx && distinct (mv.map (·.1)) && distinct (mv.map (·.2.1)) && movesOk n0 nx L mv && logOk n0 L s.M.log && allLt n0 L) = c at h1
    cases c <;> simp only [cond_true, cond_false] at h1
    · cases h1
    simp only [Bool.and_eq_true] at hc
    have hm : ∀ l : Moves, movesOk n0 nx L l = true → movesOk n0 k L l = true := by
      intro l
      induction l with
      | nil => intro _; rfl
      | cons p l ih =>
        obtain ⟨t, s, fl⟩ := p
        intro h
        simp only [movesOk, Bool.and_eq_true] at h ⊢
        exact ⟨⟨Nat.ble_eq_true_of_le (Nat.le_trans (Nat.le_of_ble_eq_true h.1.1) hk), h.1.2⟩, ih h.2⟩
    have hc2 : (Nat.ble n0 k && distinct (mv.map (·.1)) && distinct (mv.map (·.2.1)) && movesOk n0 k L mv && logOk n0 L s.M.log && allLt n0 L) = true := by
      simp only [Bool.and_eq_true]
      exact ⟨⟨⟨⟨⟨Nat.ble_eq_true_of_le (Nat.le_trans (Nat.le_of_ble_eq_true hc.1.1.1.1.1) hk), hc.1.1.1.1.2⟩, hc.1.1.1.2⟩, hm _ hc.1.1.2⟩, hc.1.2⟩, hc.2⟩
    rw [hc2]
    simp only [cond_true]
    split at h1
    · cases h1; rfl
    · cases h1
  · cases h1

end Go.Am
namespace Go.Am
open Go
theorem hold_nil {P : Program} {SP : Specs} {D : Nat → Door} {ids : List Nat} : ∀ p ∈ ([] : List QV), p.holds P SP D ids := fun p hp => by cases hp
theorem hold_cons {P : Program} {SP : Specs} {D : Nat → Door} {ids : List Nat} {q : QV} {l : List QV} (h : q.holds P SP D ids) (hl : ∀ p ∈ l, p.holds P SP D ids) : ∀ p ∈ q :: l, p.holds P SP D ids := fun p hp => by
  rcases List.mem_cons.1 hp with rfl | hp
  · exact h
  · exact hl p hp
theorem still_nil {mv : Moves} : ∀ l ∈ ([] : List (List Value)), renL mv l = some l := fun l hl => by cases hl
theorem still_cons {mv : Moves} {a : List Value} {r : List (List Value)} (h : renL mv a = some a) (hr : ∀ l ∈ r, renL mv l = some l) : ∀ l ∈ a :: r, renL mv l = some l := fun l hl => by
  rcases List.mem_cons.1 hl with rfl | hl
  · exact h
  · exact hr l hl
/- A loop told, as it is met. -/
theorem qbk {P : Program} {SP : Specs} {D : Nat → Door} {ids : List Nat} {id next : Nat} {y : Code} {log : List Nat} {t : St} {sts : List (List Value)} {e : AExit} {s' : St} (h1 : SP.blocks id = some (loopG y (D id) t (e, s'))) (h2 : next = (D id).n0) (h3 : log = (D id).lg)
    (h4 : ∀ l ∈ sts, renL (D id).mv l = some l) : (QV.bk id y next log (some t) sts true e s').holds P SP D ids := ⟨t, h1, h2, h3, rfl, h4, rfl⟩
end Go.Am
end
