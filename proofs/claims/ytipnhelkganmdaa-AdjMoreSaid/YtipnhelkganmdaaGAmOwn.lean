/-
  Package adj: each of its laws for every argument; no conditions. The last text states which.
-/
import Derived.Test.YtipnhelkganmdaaGAmMk
import Derived.Test.YtipnhelkganmdaaGAmPw
import Derived.Test.YtipnhelkganmdaaGAmTn
set_option linter.unusedVariables false
set_option linter.unusedSimpArgs false
noncomputable section
set_option linter.unusedVariables false
set_option linter.unusedSimpArgs false
namespace Go.Am
open Go
variable {P : Program}
def OwnS (n c : Nat) (cs : List Value) : Prop := (n = 0 ∧ c = 1 ∧ cs = []) ∨ (0 < n ∧ c = n)
theorem own_app {el : TypeId} {w n c : Nat} {M0 M : Mem} {cs : List Value} {b : Nat} {sT xT : TypeId} {α : Type} {g : α → List Value} {l : List α} {m cx y : Nat} {a : Option Addr} (hE : Ext M0 M) (hS : OwnS n c cs) (h2 : cs.length = n * w) (hb : M0.next ≤ b) (hg : M.get b = some ⟨cs, el, w, 0, true⟩) (hM : MemOk M) (hkt : keepT P el = false) (hs : P.underlying sT = some (.slice el)) (hx : P.underlying xT = some (.slice el)) (he : elemOf P el = some (w, y, true)) (hw : 0 < w) (hy : y ≤ 1024) (h97 : Nat.beq w mapEsz = false)
    (hr : GRowsAt g w M (.slice a m cx) l) (hn : n + l.length < 1073741824) (hc : ∀ r ∈ l, (g r).all isCell = true) :
    ∃ t b' c' M1, aappend P [sT, xT] (sli b 0 n c) (.slice a m cx) M = some ((bif t then 1 else 2), .val (sli b' 0 (n + l.length) c'), M1) ∧ Ext M0 M1 ∧ MemOk M1 ∧ M0.next ≤ b' ∧ M1.get b' = some ⟨cs ++ (l.map g).flatten, el, w, 0, true⟩ ∧ OwnS (n + l.length) c' (cs ++ (l.map g).flatten) ∧ (cs ++ (l.map g).flatten).length = (n + l.length) * w ∧ (∀ id k, M.get id = some k → id ≠ b → M1.get id = some k) ∧ (b' = b ∨ M.next ≤ b') ∧ (n = 0 → t = true) ∧ (0 < n → 0 < l.length → t = false) ∧ M.next ≤ M1.next ∧ M1.log = (bif t then [] else [b]) ++ M.log := by
  unfold elemOf at he
  cases hi : P.info? el with
  | none => rw [hi] at he; cases he
  | some e =>
    rw [hi] at he
    simp only [Option.map_some, Option.some.injEq] at he
    have hro := roomy_of (n := n + l.length) he hw hy (by omega)
    simp only [Prod.mk.injEq] at he
    obtain ⟨rfl, rfl, _⟩ := he
    have hnl := hr.len_eq
    subst hnl
    have hwd : ∀ r ∈ l.map g, r.length = e.size := fun r hr' => by obtain ⟨y, q, rfl⟩ := List.mem_map.1 hr'; exact hr.wide y q
    have hlen : (l.map g).flatten.length = l.length * e.size := by rw [rows_len hwd, List.length_map]
    have hall : (l.map g).flatten.all isCell = true := by
      rw [List.all_eq_true]
      intro x hx
      obtain ⟨r, k1, k2⟩ := List.mem_flatten.1 hx
      obtain ⟨y, q, rfl⟩ := List.mem_map.1 k1
      exact List.all_eq_true.1 (hc y q) x k2
    have hf : firsts M e.size l.length (.slice a l.length cx) = some (l.map g).flatten := by
      by_cases h0 : l.length = 0
      · have hl : l = [] := List.eq_nil_of_length_eq_zero h0
        subst hl
        cases a with
        | none => rfl
        | some a =>
          simp only [firsts]
          cases M.get a.block with
          | none => rfl
          | some b => simp [range, takeN]
      · rcases hr.at_ with ⟨_, _, hh⟩ | ⟨b', o', c', blk, pre, post, h1, h2, h3, h4, _⟩
        · omega
        · simp only [Value.slice.injEq] at h1
          obtain ⟨rfl, _, rfl⟩ := h1
          have hf : takeN (l.length * e.size) (blk.cs.drop o') = some (l.map g).flatten := by
            rw [h3, ← h4, List.append_assoc, List.drop_left, ← hlen]
            exact takeN_app _ _
          simp only [firsts, h2, range, hf]
    have hm : ∀ cs' : List Value, isMapB ⟨cs', el, e.size, 0, true⟩ = false := fun cs' => by unfold isMapB; rw [h97]; rfl
    have hbn : l.length ≠ 0 → l.length.beq 0 = false := fun h0 => by
      cases hb : l.length.beq 0
      · rfl
      · exact absurd (Nat.eq_of_beq_eq_true hb) h0
    have hcl : (cs ++ (l.map g).flatten).length = (n + l.length) * e.size := by rw [List.length_append, h2, hlen, Nat.add_mul]
    have hlt := Mem.lt_of_get hg
    rcases hS with ⟨rfl, rfl, rfl⟩ | ⟨h1, rfl⟩
    · by_cases h0 : l.length = 0
      · have hl : l = [] := List.eq_nil_of_length_eq_zero h0
        subst hl
        refine ⟨true, b, 1, M, ?_, hE, hM, hb, by simpa using hg, .inl ⟨rfl, rfl, rfl⟩, hcl, fun _ _ h _ => h, .inl rfl, fun _ => rfl, fun h => absurd h (by omega), Nat.le_refl _, rfl⟩
        unfold aappend
        simp only [List.length_nil] at hro hf ⊢
        simp only [hs, hx, hi, lenV, isIntD, hf, hg, range, hro]
        simp [takeN]
      · obtain ⟨b', M1, e1, e2, e3, e4, e5⟩ := new_t hM ⟨(l.map g).flatten, el, e.size, 0, true⟩ (hm _)
        refine ⟨true, b', 0 + l.length, M1, ?_, hE.trans e4, e5, by have := hE.next; omega, by simpa using e3, .inr ⟨by omega, rfl⟩, hcl, fun _ _ h _ => e4.old h, .inr (by omega), fun _ => rfl, fun h => absurd h (by omega), e4.next, by rw [← e2]; rfl⟩
        rw [← e1, ← e2]
        have h5 := hbn h0
        have h6 : Nat.ble 1 (0 + l.length) = true := Nat.ble_eq_true_of_le (by omega)
        unfold aappend
        simp only [hs, hx, hi, lenV, isIntD, hf, hg, range, hro, hall, hlen, Nat.zero_mul, takeN, List.nil_append, h5, h6]
        simp [made, anew, Nat.beq_refl]
        rfl
    · have hold : takeN (c * e.size) (cs.drop 0) = some cs := by
        rw [List.drop_zero, ← h2]
        exact takeN_all rfl
      by_cases h0 : l.length = 0
      · have hl : l = [] := List.eq_nil_of_length_eq_zero h0
        subst hl
        refine ⟨true, b, c, M, ?_, hE, hM, hb, by simpa using hg, .inr ⟨by simpa using h1, by simp⟩, hcl, fun _ _ h _ => h, .inl rfl, fun _ => rfl, fun _ h => absurd h (by simp), Nat.le_refl _, rfl⟩
        unfold aappend
        simp only [List.length_nil] at hro hf ⊢
        simp only [hs, hx, hi, lenV, isIntD, hf, hg, range, hro, hold]
        simp
      · obtain ⟨b', M1, e1, e2, e3, e4, e5, e6⟩ := grow_t hE hb hM ⟨cs ++ (l.map g).flatten, el, e.size, 0, true⟩ (hm _)
        refine ⟨false, b', c + l.length, M1, ?_, e4, e5, by have := hE.next; omega, e3, .inr ⟨by omega, rfl⟩, hcl, fun id k h hid => (e6 id hid (Mem.lt_of_get h)).trans h, .inr (by omega), fun h => absurd h (by omega), fun _ _ => rfl, by have := Mem.lt_of_get e3; omega, by rw [← e2]; rfl⟩
        rw [← e1, ← e2]
        have h5 := hbn h0
        unfold aappend
        simp only [hs, hx, hi, lenV, isIntD, hf, hg, range, hro, hall, hlen, hold, hkt, h5]
        simp
        rw [Nat.ble_eq_true_of_le (Nat.zero_le _)]
        rfl
theorem own_rows {α : Type} {g : α → List Value} {w n c el b : Nat} {M : Mem} {l : List α} (hg : M.get b = some ⟨(l.map g).flatten, el, w, 0, true⟩) (hn : l.length = n) (hw : ∀ r ∈ l, (g r).length = w) (hl : n ≤ 9223372036854775807) : GRowsAt g w M (sli b 0 n c) l := by
  subst hn
  exact GRowsAt.of_blk' hg rfl rfl hw hl
end Go.Am
end

set_option linter.unusedVariables false
set_option linter.unusedSimpArgs false
noncomputable section
set_option linter.unusedVariables false
namespace Go.Am
open Go
def anI (x y : Int) : Int := IntKind.wrap .i64 (((BitVec.ofInt 64 x &&& ~~~(BitVec.ofInt 64 y)).toNat : Nat) : Int)
theorem anI_zero {x y : Int} (h : BitVec.ofInt 64 x &&& ~~~(BitVec.ofInt 64 y) = 0#64) : anI x y = 0 := by unfold anI; rw [h]; rfl
theorem anI_self (x : Int) : anI x x = 0 := anI_zero (by ext i; simp)
theorem anI_or {x y : Int} (hx : 0 ≤ x ∧ x < 32) (hy : 0 ≤ y ∧ y < 32) : anI x (orI x y) = 0 := by
  obtain ⟨x, rfl⟩ : ∃ k : Nat, x = k := ⟨x.toNat, by omega⟩
  obtain ⟨y, rfl⟩ : ∃ k : Nat, y = k := ⟨y.toNat, by omega⟩
  apply anI_zero
  rw [orI_nat (by omega) (by omega)]
  have e : ∀ n : Nat, BitVec.ofInt 64 ((n : Nat) : Int) = BitVec.ofNat 64 n := fun n => by
    apply BitVec.eq_of_toNat_eq
    rw [ofInt_nat, BitVec.toNat_ofNat]
  rw [e, e]
  apply BitVec.eq_of_getLsbD_eq
  intro i hi
  rw [BitVec.getLsbD_and, BitVec.getLsbD_not, BitVec.getLsbD_ofNat, BitVec.getLsbD_ofNat, Nat.testBit_or]
  cases x.testBit i <;> cases y.testBit i <;> simp [hi]
theorem more_chk {n : Nat} {l : List E4} (h : chkN ((n : Nat) : Int) l = true) (hl : l.length < 400) {e : E4} (he : fitE ((n : Nat) : Int) e = true) : chkN ((n : Nat) : Int) (l ++ [e]) = true := by
  unfold chkN at h ⊢
  simp only [Bool.and_eq_true, List.all_eq_true, Bool.not_eq_true', Bool.or_eq_false_iff, decide_eq_false_iff_not, Bool.not_eq_false'] at h ⊢
  refine ⟨⟨h.1.1, by rw [List.length_append, List.length_singleton]; omega⟩, fun x hx => ?_⟩
  rcases List.mem_append.1 hx with hx | hx
  · exact h.2 x hx
  · rw [List.mem_singleton.1 hx]; exact he
theorem refRow_pre (k : Tell) (l r : List E4) (v : Int) : ∀ i, i ≤ l.length → refRow k (l ++ r) v i = refRow k l v i := fun i hi => by
  unfold refRow
  apply filterMap_same
  intro j hj
  rw [List.getElem?_append_left (by have := List.mem_range.1 hj; omega)]
theorem more_row (k : Tell) (l : List E4) (e : E4) (v : Int) : refRow k (l ++ [e]) v (l ++ [e]).length = refRow k l v l.length ++ (if tellE k e = v then [((l.length : Nat) : Int)] else []) := by
  rw [List.length_append, List.length_singleton, refRow_succ k v (e := e) (by simp), refRow_pre k l [e] v _ (Nat.le_refl _)]
theorem refModes_pre (l r : List E4) (v : Int) (i : Nat) (hi : i ≤ l.length) : refModes (l ++ r) v i = refModes l v i := by
  unfold refModes
  rw [List.take_append_of_le_length hi]
theorem more_modes {n : Nat} {l : List E4} {e : E4} (h : chkN ((n : Nat) : Int) l = true) (h2 : chkN ((n : Nat) : Int) (l ++ [e]) = true) {v : Int} (hv : 0 ≤ v ∧ v < (n : Int)) : anI (modesI (adjM n l) v) (modesI (adjM n (l ++ [e])) v) = 0 := by
  have r0 := refModes_range (fun e he => ((chkN_spec h).2.2.2 e he).2.2.2.2) v l.length (Nat.le_refl _)
  have hok : okM e := ((chkN_spec h2).2.2.2 e (by simp)).2.2.2.2
  have r1 := setM_range hok.1 hok.2
  rw [modes_eq h hv, modes_eq h2 hv, List.length_append, List.length_singleton, refModes_succ v (e := e) (by simp), refModes_pre l [e] v _ (Nat.le_refl _)]
  split
  · exact anI_or r0 r1
  · exact anI_self _
end Go.Am
end
