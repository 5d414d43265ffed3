/-
  Package order: each of its laws for every argument; no conditions. The last text states which.
-/
import Derived.Test.YtfeabmmgmbddnaaOQ5
import Derived.Test.YtfeabmmgmbddnaaOPL
import Derived.Test.YtfeabmmgmbddnaaGAmBk
open Go Go.Am Go.Proofs
namespace Go.Proofs.Ytfeabmmgmbddnaa
set_option maxRecDepth 100000
set_option linter.unusedVariables false
set_option linter.unusedSimpArgs false
theorem linksL_len (a : AdjM) (n : Nat) : (linksL a n).length = n := by simp [linksL]
theorem order_len {n : Nat} {l : List E4} (h : chkN ((n : Nat) : Int) l = true) : (orderL n l).length ≤ n := by
  unfold orderL
  rw [sortedI_len (okA_adjM h)]
  exact othersTo_len _ n
theorem row_lt {α : Type} {g : α → List Value} {w : Nat} {M : Mem} {b o n c : Nat} {l : List α} (h : GRowsAt g w M (.slice (some ⟨b, o, none⟩) n c) l) (hl : 0 < l.length) : b < M.next := by
  rcases h.at_ with ⟨_, _, h0⟩ | ⟨b', o', c', blk, pre, post, h1, h2, _⟩
  · omega
  · simp only [Value.slice.injEq, Option.some.injEq, Addr.mk.injEq, and_true] at h1
    rw [show b = b' from h1.1.1]
    exact Mem.lt_of_get h2
def ltD (l : List E4) (x y : Int) : Prop := refDeg l x < refDeg l y ∨ (refDeg l x = refDeg l y ∧ x < y)
theorem refOrd_mem {l : List E4} {d n : Nat} {x : Int} : x ∈ refOrd l d n ↔ ∃ v : Nat, v < n ∧ linkR l ((v : Nat) : Int) = false ∧ refDeg l ((v : Nat) : Int) = d ∧ x = ((v : Nat) : Int) := by
  unfold refOrd
  simp only [List.mem_filterMap, List.mem_range]
  constructor
  · rintro ⟨v, hv, h⟩
    by_cases c : linkR l ((v : Nat) : Int) = false ∧ refDeg l ((v : Nat) : Int) = d
    · rw [if_pos c] at h; exact ⟨v, hv, c.1, c.2, (Option.some.inj h).symm⟩
    · rw [if_neg c] at h; cases h
  · rintro ⟨v, hv, c1, c2, rfl⟩
    exact ⟨v, hv, if_pos ⟨c1, c2⟩⟩
theorem ord_mem {n : Nat} {l : List E4} {x : Int} : x ∈ orderR n l ↔ ∃ v : Nat, v < n ∧ linkR l ((v : Nat) : Int) = false ∧ x = ((v : Nat) : Int) := by
  unfold orderR orderTo
  simp only [List.mem_flatten, List.mem_map, List.mem_range]
  constructor
  · rintro ⟨r, ⟨d, _, rfl⟩, h⟩
    obtain ⟨v, h1, h2, _, h4⟩ := refOrd_mem.1 h
    exact ⟨v, h1, h2, h4⟩
  · rintro ⟨v, h1, h2, rfl⟩
    exact ⟨_, ⟨refDeg l ((v : Nat) : Int), by have := refDeg_le l ((v : Nat) : Int); omega, rfl⟩, refOrd_mem.2 ⟨v, h1, h2, rfl, rfl⟩⟩
theorem ord_pw (n : Nat) (l : List E4) : (orderR n l).Pairwise (ltD l) := by
  unfold orderR orderTo
  rw [List.pairwise_flatten]
  constructor
  · intro r hr
    obtain ⟨d, _, rfl⟩ := List.mem_map.1 hr
    unfold refOrd
    rw [List.pairwise_filterMap]
    refine List.Pairwise.imp ?_ List.pairwise_lt_range
    intro a b hab x hx y hy
    by_cases c : linkR l ((a : Nat) : Int) = false ∧ refDeg l ((a : Nat) : Int) = d
    · by_cases c' : linkR l ((b : Nat) : Int) = false ∧ refDeg l ((b : Nat) : Int) = d
      · rw [if_pos c] at hx
        rw [if_pos c'] at hy
        obtain rfl := Option.some.inj hx
        obtain rfl := Option.some.inj hy
        exact .inr ⟨c.2.trans c'.2.symm, by omega⟩
      · rw [if_neg c'] at hy; cases hy
    · rw [if_neg c] at hx; cases hx
  · rw [List.pairwise_map]
    refine List.Pairwise.imp ?_ List.pairwise_lt_range
    intro a b hab x hx y hy
    obtain ⟨v, _, _, h3, rfl⟩ := refOrd_mem.1 hx
    obtain ⟨w, _, _, k3, rfl⟩ := refOrd_mem.1 hy
    exact .inl (by omega)
theorem ord_ok {n : Nat} {l : List E4} (h : chkN ((n : Nat) : Int) l = true) : ∀ x ∈ orderL n l, 0 ≤ x ∧ x < (n : Int) ∧ (linksL (adjM n l) n)[x.toNat]? = some false := fun x hx => by
  rw [order_eq h] at hx
  obtain ⟨v, h1, h2, rfl⟩ := ord_mem.1 hx
  refine ⟨by omega, by omega, ?_⟩
  rw [links_eq h]
  unfold linksR
  rw [Int.toNat_natCast, List.getElem?_map, List.getElem?_range h1]
  exact congrArg some h2
def memT (o : List Int) (n : Nat) : List Bool := (List.range n).map fun v => decide (((v : Nat) : Int) ∈ o)
theorem memT_len (o : List Int) (n : Nat) : (memT o n).length = n := by simp [memT]
theorem memT_nil (n : Nat) : (memT [] n).map Value.bool = List.replicate n (.bool false) := by
  unfold memT
  rw [List.map_map]
  exact List.eq_replicate_iff.2 ⟨by simp, by simp⟩
theorem memT_at {o : List Int} {n i : Nat} (hi : i < n) : (memT o n)[i]? = some (decide (((i : Nat) : Int) ∈ o)) := by
  unfold memT
  rw [List.getElem?_map, List.getElem?_range hi]; rfl
theorem memT_step {o : List Int} {n : Nat} {x : Int} (hx : 0 ≤ x ∧ x < n) : splice ((memT o n).map Value.bool) x.toNat [.bool true] = (memT (o ++ [x]) n).map Value.bool := by
  have hl := memT_len o n
  rw [splice_one _ x.toNat _ (by rw [List.length_map]; omega), ← List.map_set]
  refine congrArg (List.map Value.bool) ?_
  apply List.ext_getElem
  · simp [memT]
  · intro v h1 h2
    rw [List.getElem_set]
    simp only [memT, List.getElem_map, List.getElem_range, List.mem_append, List.mem_singleton]
    by_cases a : x.toNat = v
    · have : ((v : Nat) : Int) = x := by omega
      simp [a, this]
    · have a' : ¬ ((v : Nat) : Int) = x := by omega
      simp [a, a']
theorem ord_new {l : List E4} {o : List Int} (hp : o.Pairwise (ltD l)) {i : Nat} (hi : i < o.length) : o[i] ∉ o.take i := fun hm => by
  obtain ⟨j, hj, e⟩ := List.mem_iff_getElem.1 hm
  rw [List.length_take] at hj
  rw [List.getElem_take] at e
  have := List.pairwise_iff_getElem.1 hp j i (by omega) hi (by omega)
  rw [e] at this
  unfold ltD at this
  omega
theorem ord_iff {n : Nat} {l : List E4} (h : chkN ((n : Nat) : Int) l = true) {i : Nat} (hi : i < n) : ∃ a b, (memT (orderL n l) n)[i]? = some a ∧ (linksL (adjM n l) n)[i]? = some b ∧ (a == b) = false := by
  refine ⟨_, linkR l ((i : Nat) : Int), memT_at hi, ?_, ?_⟩
  · rw [links_eq h]
    unfold linksR
    rw [List.getElem?_map, List.getElem?_range hi]; rfl
  · rw [order_eq h]
    cases hl : linkR l ((i : Nat) : Int) with
    | false =>
      rw [decide_eq_true (ord_mem.2 ⟨i, hi, hl, rfl⟩)]; rfl
    | true =>
      have : ((i : Nat) : Int) ∉ orderR n l := fun hm => by
        obtain ⟨v, _, h2, e⟩ := ord_mem.1 hm
        rw [← e, hl] at h2
        cases h2
      rw [decide_eq_false this]; rfl
def dAt (l : List E4) (o : List Int) : Nat → Nat
  | 0 => 0
  | i + 1 => refDeg l ((o[i]?).getD 0)
theorem hS4_16_17 (B : Bd) : ∀ p ∈ ([(16, pick (Con Try.prog [] 16 Q16)), (17, pick (Con Try.prog [] 17 Q17))] : List (FuncId × (List Value → Mem → Option (Value × Mem)))), SpecOk Try.prog [] B p.1 p.2 := (fun p hp => by simp only [List.mem_cons, List.not_mem_nil, or_false] at hp; rcases hp with rfl | rfl <;> first | exact Con.ok _)
theorem r4w9_raw (q h rb lb lo cl ob oo k co i n : Nat) (d x y : Int) (ql : Bool) (VE : Value) (cr : List Value) (l : List E4) (M : Mem) (z1 : Bool) (M1 : Mem) (a16 : Option Addr) (c17 : Nat) (M21 : Mem) (a33 : Option Addr) (c34 : Nat) (M38 : Mem) : oR Try.prog [] 120 Try.f4 (q4.loopAt 0) [(7, (pt q 0)), (8, (sli lb lo n cl)), (9, (sli ob oo k co)), (10, (pt rb 0)), (11, (sli h 0 n (n + 1))), (12, (i64 d)), (13, (i64 (((i : Nat) : Int))))] M [ttT 8, ttT 14, ttL 16 (i64 x), ttF 21, ttF 23, ttF 25, ttT 26, ttF 27, ttL 28 (i64 x), ttF 29, ttF 31, ttL 32 (i64 (((n : Nat) : Int))), ttF 33, ttF 36, ttF 39, ttF 41, ttF 43, ttF 45, ttT 46, ttF 47, ttL 48 (i64 x), ttF 49, ttT 50, ttF 51, ttL 52 (.bool z1), ttF 54, ttF 57, ttF 59, ttF 61, ttF 63, ttT 64, ttF 65, ttL 66 (i64 x), ttF 67, ttT 68, ttF 69, ttL 70 (.bool ql), ttF 72, ttF 73, ttT 81, ttL 83 (i64 x), ttT 85, ttS 87 M1, ttT 95, ttL 97 (i64 x), ttV 99 (.slice a16 (refRow .fr l x l.length).length c17) M21, ttT 101, ttT 109, ttL 111 (i64 x), ttV 113 (.slice a33 (refRow .to l x l.length).length c34) M38, ttT 115, ttF 128, ttF 130, ttF 132, ttT 134, ttT 136, ttT 138, ttF 140, ttT 141, ttF 142, ttT 144, ttT 146, ttT 148, ttT 150, ttT 151, ttT 152, ttL 153 (i64 y), ttT 154, ttT 156, ttT 158, ttT 159, ttT 160, ttL 161 (i64 x), ttT 162, ttF 164, ttT 165, ttF 167, ttF 168] [7, 8, 9, 10, 11, 12, 13] = some (.normal, [some (pt q 0), some (sli lb lo n cl), some (sli ob oo k co), some (pt rb 0), some (sli h 0 n (n + 1)), some (i64 (IntKind.wrap .i64 (((((refRow .fr l x l.length).length : Nat) : Int)) + ((((refRow .to l x l.length).length : Nat) : Int))))), some (i64 (IntKind.wrap .i64 ((((i : Nat) : Int)) + (1 : Int))))], (Mem.mk M38.blks M38.next M1.hide (M38.log ++ M1.log)), [qT (decide ((((i : Nat) : Int)) < (((k : Nat) : Int)))), .q (.inb (((i : Nat) : Int)) k) (ansB true), qL 3 ob (oo + (((i : Nat) : Int) : Int).toNat * 1) M (i64 x), qF (decide (x < (0 : Int))), qF (decide (x < (0 : Int))), qF (decide (x < (0 : Int))), .q (.inb (((i : Nat) : Int)) k) (ansB true), qF (decide (x < (0 : Int))), qL 3 ob (oo + (((i : Nat) : Int) : Int).toNat * 1) M (i64 x), qF (decide (x < (0 : Int))), qF (decide (x < (0 : Int))), qL 3 q 0 M (i64 (((n : Nat) : Int))), qF (decide (x < (0 : Int))), qF (decide (x < (0 : Int))), qF (decide (x ≥ (((n : Nat) : Int)))), qF (decide (x ≥ (((n : Nat) : Int)))), qF (decide (x ≥ (((n : Nat) : Int)))), qF (decide (x ≥ (((n : Nat) : Int)))), .q (.inb (((i : Nat) : Int)) k) (ansB true), qF (decide (x ≥ (((n : Nat) : Int)))), qL 3 ob (oo + (((i : Nat) : Int) : Int).toNat * 1) M (i64 x), qF (decide (x ≥ (((n : Nat) : Int)))), .q (.inb x n) (ansB true), qF (decide (x ≥ (((n : Nat) : Int)))), qL 4 h (0 + (x : Int).toNat * 1) M (.bool z1), qF (decide (x ≥ (((n : Nat) : Int)))), qF z1, qF z1, qF z1, qF z1, .q (.inb (((i : Nat) : Int)) k) (ansB true), qF z1, qL 3 ob (oo + (((i : Nat) : Int) : Int).toNat * 1) M (i64 x), qF z1, .q (.inb x n) (ansB true), qF z1, qL 4 lb (lo + (x : Int).toNat * 1) M (.bool ql), qF z1, qF ql, .q (.inb (((i : Nat) : Int)) k) (ansB true), qL 3 ob (oo + (((i : Nat) : Int) : Int).toNat * 1) M (i64 x), .q (.inb x n) (ansB true), qS 4 h (0 + (x : Int).toNat * 1) (.bool true) M M1, .q (.inb (((i : Nat) : Int)) k) (ansB true), qL 3 ob (oo + (((i : Nat) : Int) : Int).toNat * 1) (Mem.mk M1.blks M1.next M1.hide []) (i64 x), qC 16 [(pt rb 0), (i64 x)] (Mem.mk M1.blks M1.next M1.hide []) (.slice a16 (refRow .fr l x l.length).length c17) M21, .ln a16 (refRow .fr l x l.length).length c17, .q (.inb (((i : Nat) : Int)) k) (ansB true), qL 3 ob (oo + (((i : Nat) : Int) : Int).toNat * 1) (Mem.mk M21.blks M21.next (hides 1792 [⟨5, 1, M1.next, M21.next⟩, ⟨4, 1, M1.next, M1.next⟩] ++ M1.hide) M21.log) (i64 x), qT (Nat.blt ob M1.next), qC 17 [(pt rb 0), (i64 x)] (Mem.mk M21.blks M21.next M1.hide M21.log) (.slice a33 (refRow .to l x l.length).length c34) M38, .ln a33 (refRow .to l x l.length).length c34, qT (apartN [ob] M38.log), qF (decide ((IntKind.wrap .i64 (((((refRow .fr l x l.length).length : Nat) : Int)) + ((((refRow .to l x l.length).length : Nat) : Int)))) < d)), qF (decide ((IntKind.wrap .i64 (((((refRow .fr l x l.length).length : Nat) : Int)) + ((((refRow .to l x l.length).length : Nat) : Int)))) < d)), qF (decide ((IntKind.wrap .i64 (((((refRow .fr l x l.length).length : Nat) : Int)) + ((((refRow .to l x l.length).length : Nat) : Int)))) < d)), qT (decide ((((i : Nat) : Int)) > (0 : Int))), qT (decide ((((i : Nat) : Int)) > (0 : Int))), qT (decide ((((i : Nat) : Int)) > (0 : Int))), qF (decide ((IntKind.wrap .i64 (((((refRow .fr l x l.length).length : Nat) : Int)) + ((((refRow .to l x l.length).length : Nat) : Int)))) < d)), qT (decide ((((i : Nat) : Int)) > (0 : Int))), qF (decide ((IntKind.wrap .i64 (((((refRow .fr l x l.length).length : Nat) : Int)) + ((((refRow .to l x l.length).length : Nat) : Int)))) < d)), qT ((IntKind.wrap .i64 (((((refRow .fr l x l.length).length : Nat) : Int)) + ((((refRow .to l x l.length).length : Nat) : Int)))) == d), qT ((IntKind.wrap .i64 (((((refRow .fr l x l.length).length : Nat) : Int)) + ((((refRow .to l x l.length).length : Nat) : Int)))) == d), qT ((IntKind.wrap .i64 (((((refRow .fr l x l.length).length : Nat) : Int)) + ((((refRow .to l x l.length).length : Nat) : Int)))) == d), qT ((IntKind.wrap .i64 (((((refRow .fr l x l.length).length : Nat) : Int)) + ((((refRow .to l x l.length).length : Nat) : Int)))) == d), .q (.inb (IntKind.wrap .i64 ((((i : Nat) : Int)) - (1 : Int))) k) (ansB true), qT ((IntKind.wrap .i64 (((((refRow .fr l x l.length).length : Nat) : Int)) + ((((refRow .to l x l.length).length : Nat) : Int)))) == d), qL 3 ob (oo + (IntKind.wrap .i64 ((((i : Nat) : Int)) - (1 : Int)) : Int).toNat * 1) (Mem.mk M38.blks M38.next M1.hide (M38.log ++ M1.log)) (i64 y), qT ((IntKind.wrap .i64 (((((refRow .fr l x l.length).length : Nat) : Int)) + ((((refRow .to l x l.length).length : Nat) : Int)))) == d), qT ((IntKind.wrap .i64 (((((refRow .fr l x l.length).length : Nat) : Int)) + ((((refRow .to l x l.length).length : Nat) : Int)))) == d), qT ((IntKind.wrap .i64 (((((refRow .fr l x l.length).length : Nat) : Int)) + ((((refRow .to l x l.length).length : Nat) : Int)))) == d), .q (.inb (((i : Nat) : Int)) k) (ansB true), qT ((IntKind.wrap .i64 (((((refRow .fr l x l.length).length : Nat) : Int)) + ((((refRow .to l x l.length).length : Nat) : Int)))) == d), qL 3 ob (oo + (((i : Nat) : Int) : Int).toNat * 1) (Mem.mk M38.blks M38.next M1.hide (M38.log ++ M1.log)) (i64 x), qT ((IntKind.wrap .i64 (((((refRow .fr l x l.length).length : Nat) : Int)) + ((((refRow .to l x l.length).length : Nat) : Int)))) == d), qF (decide ((IntKind.wrap .i64 (((((refRow .fr l x l.length).length : Nat) : Int)) + ((((refRow .to l x l.length).length : Nat) : Int)))) < d)), qT ((IntKind.wrap .i64 (((((refRow .fr l x l.length).length : Nat) : Int)) + ((((refRow .to l x l.length).length : Nat) : Int)))) == d), qF (decide ((IntKind.wrap .i64 (((((refRow .fr l x l.length).length : Nat) : Int)) + ((((refRow .to l x l.length).length : Nat) : Int)))) < d)), qF (decide (y ≥ x))]) := by kernel_rfl
theorem r4w9 (q h rb lb lo cl ob oo k co i n : Nat) (d x y : Int) (ql : Bool) (VE : Value) (cr : List Value) (l : List E4) (z1 : Bool) {M M0 : Mem} (hM : MemOk M) (X0 : Ext M0 M) (gq : M.get q = some ⟨[i64 ((n : Nat) : Int), VE], 26, 2, 0, true⟩) (nh : M0.next ≤ h) (gh : M.get h = some ⟨cr, 4, 1, 0, true⟩) (dqh : q ≠ h) (href : pRefA 53 (n, l) (pt rb 0) M0) (hl400 : l.length ≤ 400) (hob : ob < M0.next) (cc0 : (decide ((((i : Nat) : Int)) < (((k : Nat) : Int)))) = true) (cc1 : (decide (x < (0 : Int))) = false) (cc2 : (decide (x ≥ (((n : Nat) : Int)))) = false) (cc3 : (z1) = false) (cc4 : (ql) = false) (cc5 : (decide ((IntKind.wrap .i64 (((((refRow .fr l x l.length).length : Nat) : Int)) + ((((refRow .to l x l.length).length : Nat) : Int)))) < d)) = false) (cc6 : (decide ((((i : Nat) : Int)) > (0 : Int))) = true) (cc7 : ((IntKind.wrap .i64 (((((refRow .fr l x l.length).length : Nat) : Int)) + ((((refRow .to l x l.length).length : Nat) : Int)))) == d) = true) (cc8 : (decide (y ≥ x)) = false) (hld0 : aload Try.prog 3 ⟨ob, oo + (((i : Nat) : Int) : Int).toNat * 1, none⟩ M0 = some (i64 x)) (hi1 : 0 ≤ (x : Int) ∧ (x : Int) < n) (hc2 : (cr)[0 + (x : Int).toNat * 1]? = some (.bool z1)) (hld3 : aload Try.prog 4 ⟨lb, lo + (x : Int).toNat * 1, none⟩ M0 = some (.bool ql)) (hof4 : 0 + (x : Int).toNat * 1 + 1 ≤ (cr).length) (hi5 : 0 ≤ (IntKind.wrap .i64 ((((i : Nat) : Int)) - (1 : Int)) : Int) ∧ (IntKind.wrap .i64 ((((i : Nat) : Int)) - (1 : Int)) : Int) < k) (hld6 : aload Try.prog 3 ⟨ob, oo + (IntKind.wrap .i64 ((((i : Nat) : Int)) - (1 : Int)) : Int).toNat * 1, none⟩ M0 = some (i64 y)) : ∃ T1 M', Rd Try.prog [] (q4.loopAt 0) Try.f4.ntmps (fr [(7, (pt q 0)), (8, (sli lb lo n cl)), (9, (sli ob oo k co)), (10, (pt rb 0)), (11, (sli h 0 n (n + 1))), (12, (i64 d)), (13, (i64 (((i : Nat) : Int))))]) M .normal T1 M' ∧ [7, 8, 9, 10, 11, 12, 13].map T1.get = [some (pt q 0), some (sli lb lo n cl), some (sli ob oo k co), some (pt rb 0), some (sli h 0 n (n + 1)), some (i64 (IntKind.wrap .i64 (((((refRow .fr l x l.length).length : Nat) : Int)) + ((((refRow .to l x l.length).length : Nat) : Int))))), some (i64 (IntKind.wrap .i64 ((((i : Nat) : Int)) + (1 : Int))))] ∧ Ext M0 M' ∧ MemOk M' ∧ M'.get q = some ⟨[(i64 (((n : Nat) : Int))), VE], 26, 2, 0, true⟩ ∧ M'.get h = some ⟨(splice cr (0 + (x : Int).toNat * 1) [(.bool true)]), 4, 1, 0, true⟩ := by
  obtain ⟨M1, q2, g3, kp4, X5, hM6, nx7⟩ := store_t (o := 0 + (x : Int).toNat * 1) (v := (.bool true)) (new := splice cr (0 + (x : Int).toNat * 1) [(.bool true)]) X0 nh hM dS4 gh rfl rfl (Nat.zero_le _) hof4 rfl
  replace g3 : M1.get h = some ⟨splice cr (0 + (x : Int).toNat * 1) [(.bool true)], 4, 1, 0, true⟩ := g3
  have g8 := (kp4 _ dqh).trans gq
  obtain ⟨R9, eR10⟩ : ∃ m : Mem, m = Mem.mk M1.blks M1.next M1.hide [] := ⟨_, rfl⟩
  have X11 : Ext (Mem.mk M0.blks M0.next M0.hide []) R9 := by rw [eR10]; exact Ext.aside (X5)
  have lg12 : R9.log = [] := by rw [eR10]
  have nxR9 : R9.next = M1.next := by rw [eR10]
  have hM13 : MemOk R9 := by rw [eR10]; exact MemOk.log hM6
  have ltobM1 : ob < M1.next := Nat.lt_of_lt_of_le hob (X5).next
  have ltqM1 : q < M1.next := by have h := Mem.lt_of_get g8; exact h
  have g14 : R9.get q = some ⟨[(i64 (((n : Nat) : Int))), VE], 26, 2, 0, true⟩ := by rw [eR10]; exact g8
  have lthM1 : h < M1.next := by have h := Mem.lt_of_get g3; exact h
  have g15 : R9.get h = some ⟨(splice cr (0 + (x : Int).toNat * 1) [(.bool true)]), 4, 1, 0, true⟩ := by rw [eR10]; exact g3
  have ltqM21 := Mem.lt_of_get g14
  have lthM21 := Mem.lt_of_get g15
  obtain ⟨w19, N20, M21, p22, l23, e24, E25, hM26, F27⟩ := call_fc (x := ((n, l), x)) hM13 con16 (⟨⟨_, _, rfl, AP.Ext (R := (pRefA 53)) (AP.log (R := (pRefA 53)) href) X11, rfl⟩, hl400⟩)
  have nx28 := E25.next
  have g29 := E25.old g14
  have g30 := E25.old g15
  have G18 : pInts (refRow .fr l x l.length) w19 M21 := newR.out (R := pInts) F27
  obtain ⟨a16, c17, ew19⟩ := GRowsAt.form G18
  subst ew19
  have lna16 := GRowsAt.ln G18
  have lg31 : M21.log = [] := by rw [← e24]; exact lg12
  have X32 := X11.trans E25
  have ltqM38 := Mem.lt_of_get g29
  have lthM38 := Mem.lt_of_get g30
  obtain ⟨w36, N37, M38, p39, l40, e41, E42, hM43, F44⟩ := call_fc (x := ((n, l), x)) hM26 con17 (⟨⟨_, _, rfl, AP.Ext (R := (pRefA 53)) (AP.log (R := (pRefA 53)) href) X32, rfl⟩, hl400⟩)
  have nx45 := E42.next
  have g46 := E42.old g29
  have g47 := E42.old g30
  have G35 : pInts (refRow .to l x l.length) w36 M38 := newR.out (R := pInts) F44
  obtain ⟨a33, c34, ew36⟩ := GRowsAt.form G35
  subst ew36
  have lna33 := GRowsAt.ln G35
  have lg48 : M38.log = [] := by rw [← e41]; exact lg31
  have X49 := X32.trans E42
  obtain ⟨M50, ef51⟩ : ∃ m : Mem, m = (Mem.mk M38.blks M38.next M38.hide (M38.log ++ M1.log)) := ⟨_, rfl⟩
  have X52 : Ext M0 M50 := by rw [ef51]; exact Ext.join (X5) (X49)
  have hM53 : MemOk M50 := by rw [ef51]; exact hM43
  have g54 : M50.get q = some ⟨[(i64 (((n : Nat) : Int))), VE], 26, 2, 0, true⟩ := by rw [ef51]; exact g46
  have g55 : M50.get h = some ⟨(splice cr (0 + (x : Int).toNat * 1) [(.bool true)]), 4, 1, 0, true⟩ := by rw [ef51]; exact g47
  have hraw := r4w9_raw q h rb lb lo cl ob oo k co i n d x y ql VE cr l M z1 M1 a16 c17 M21 a33 c34 M38
  have rw0 : Mem.mk M1.blks M1.next M1.hide [] = R9 := eR10.symm
  have rw1 : Mem.mk M21.blks M21.next M1.hide M21.log = M21 := by rw [(show M1.hide = M21.hide from ((X5).hide.trans (X32).hide.symm))]
  have rw2 : Mem.mk M21.blks M21.next (hides 1792 [⟨5, 1, M1.next, M21.next⟩, ⟨4, 1, M1.next, M1.next⟩] ++ M1.hide) M21.log = hidx (hides 1792 [⟨5, 1, M1.next, M21.next⟩, ⟨4, 1, M1.next, M1.next⟩]) M21 := by rw [(show M1.hide = M21.hide from ((X5).hide.trans (X32).hide.symm))]; rfl
  have rw3 : Mem.mk M38.blks M38.next M1.hide M38.log = M38 := by rw [(show M1.hide = M38.hide from ((X5).hide.trans (X49).hide.symm))]
  have rw4 : (Mem.mk M38.blks M38.next M1.hide (M38.log ++ M1.log)) = (Mem.mk M38.blks M38.next M38.hide (M38.log ++ M1.log)) := by rw [(show M1.hide = M38.hide from ((X5).hide.trans (X49).hide.symm))]
  have rw5 : (Mem.mk M38.blks M38.next M38.hide (M38.log ++ M1.log)) = M50 := ef51.symm
  try rw [rw0] at hraw
  try rw [rw1] at hraw
  try rw [rw2] at hraw
  try rw [rw3] at hraw
  try rw [rw4] at hraw
  try rw [rw5] at hraw
  obtain ⟨T1, h1, h2⟩ := Rd.told noNumP mixedP (fun B => specsB_ok (k := []) (hS4_16_17 B) (fun p hp => by cases hp)) (fun _ _ => rfl) hraw (hk (bT cc0) (hk (q_inb (by omega) (by simp at cc0; omega)) (hk (q_ld (aload_ext X0 hld0)) (hk (bF cc1) (hk (bF cc1) (hk (bF cc1) (hk (q_inb (by omega) (by simp at cc0; omega)) (hk (bF cc1) (hk (q_ld (aload_ext X0 hld0)) (hk (bF cc1) (hk (bF cc1) (hk (lC dC3 gq rfl) (hk (bF cc1) (hk (bF cc1) (hk (bF cc2) (hk (bF cc2) (hk (bF cc2) (hk (bF cc2) (hk (q_inb (by omega) (by simp at cc0; omega)) (hk (bF cc2) (hk (q_ld (aload_ext X0 hld0)) (hk (bF cc2) (hk (q_inb hi1.1 hi1.2) (hk (bF cc2) (hk (q_ld (aload_cell (a := ⟨h, 0 + (x : Int).toNat * 1, none⟩) dC4 gh hc2)) (hk (bF cc2) (hk (bF cc3) (hk (bF cc3) (hk (bF cc3) (hk (bF cc3) (hk (q_inb (by omega) (by simp at cc0; omega)) (hk (bF cc3) (hk (q_ld (aload_ext X0 hld0)) (hk (bF cc3) (hk (q_inb hi1.1 hi1.2) (hk (bF cc3) (hk (q_ld (aload_ext X0 hld3)) (hk (bF cc3) (hk (bF cc4) (hk (q_inb (by omega) (by simp at cc0; omega)) (hk (q_ld (aload_ext X0 hld0)) (hk (q_inb hi1.1 hi1.2) (hk (q_st q2) (hk (q_inb (by omega) (by simp at cc0; omega)) (hk (q_ld (aload_ext X11 hld0)) (hk (q_call rfl p22 l23 e24) (hk (lN lna16) (hk (q_inb (by omega) (by simp at cc0; omega)) (hk (q_ld (aload_mono (fun _ g => hidx_get.2 ⟨hides_low (by simp; omega), g⟩) (aload_ext X32 hld0))) (hk (q_lt ltobM1) (hk (q_call rfl p39 l40 e41) (hk (lN lna33) (hk (q_apart (by rw [lg48]; simp <;> omega)) (hk (bF cc5) (hk (bF cc5) (hk (bF cc5) (hk (bT cc6) (hk (bT cc6) (hk (bT cc6) (hk (bF cc5) (hk (bT cc6) (hk (bF cc5) (hk (bT cc7) (hk (bT cc7) (hk (bT cc7) (hk (bT cc7) (hk (q_inb hi5.1 hi5.2) (hk (bT cc7) (hk (q_ld (aload_ext X52 hld6)) (hk (bT cc7) (hk (bT cc7) (hk (bT cc7) (hk (q_inb (by omega) (by simp at cc0; omega)) (hk (bT cc7) (hk (q_ld (aload_ext X52 hld0)) (hk (bT cc7) (hk (bF cc5) (hk (bT cc7) (hk (bF cc5) (hk (bF cc8) hn))))))))))))))))))))))))))))))))))))))))))))))))))))))))))))))))))))))))))))))))
  exact ⟨T1, M50, h1, h2, X52, hM53, g54, g55⟩
theorem r4w8_raw (q h rb lb lo cl ob oo k co i n : Nat) (d x y : Int) (ql : Bool) (VE : Value) (cr : List Value) (l : List E4) (M : Mem) (z1 : Bool) (M1 : Mem) (a16 : Option Addr) (c17 : Nat) (M21 : Mem) (a33 : Option Addr) (c34 : Nat) (M38 : Mem) : oR Try.prog [] 120 Try.f4 (q4.loopAt 0) [(7, (pt q 0)), (8, (sli lb lo n cl)), (9, (sli ob oo k co)), (10, (pt rb 0)), (11, (sli h 0 n (n + 1))), (12, (i64 d)), (13, (i64 (((i : Nat) : Int))))] M [ttT 8, ttT 14, ttL 16 (i64 x), ttF 21, ttF 23, ttF 25, ttT 26, ttF 27, ttL 28 (i64 x), ttF 29, ttF 31, ttL 32 (i64 (((n : Nat) : Int))), ttF 33, ttF 36, ttF 39, ttF 41, ttF 43, ttF 45, ttT 46, ttF 47, ttL 48 (i64 x), ttF 49, ttT 50, ttF 51, ttL 52 (.bool z1), ttF 54, ttF 57, ttF 59, ttF 61, ttF 63, ttT 64, ttF 65, ttL 66 (i64 x), ttF 67, ttT 68, ttF 69, ttL 70 (.bool ql), ttF 72, ttF 73, ttT 81, ttL 83 (i64 x), ttT 85, ttS 87 M1, ttT 95, ttL 97 (i64 x), ttV 99 (.slice a16 (refRow .fr l x l.length).length c17) M21, ttT 101, ttT 109, ttL 111 (i64 x), ttV 113 (.slice a33 (refRow .to l x l.length).length c34) M38, ttT 115, ttF 128, ttF 130, ttF 132, ttT 134, ttT 136, ttT 138, ttF 140, ttT 141, ttF 142, ttF 144, ttF 146, ttF 148, ttF 150, ttF 152, ttF 154, ttF 156, ttF 158, ttF 160, ttF 162, ttF 164, ttF 165, ttF 167] [7, 8, 9, 10, 11, 12, 13] = some (.normal, [some (pt q 0), some (sli lb lo n cl), some (sli ob oo k co), some (pt rb 0), some (sli h 0 n (n + 1)), some (i64 (IntKind.wrap .i64 (((((refRow .fr l x l.length).length : Nat) : Int)) + ((((refRow .to l x l.length).length : Nat) : Int))))), some (i64 (IntKind.wrap .i64 ((((i : Nat) : Int)) + (1 : Int))))], (Mem.mk M38.blks M38.next M1.hide (M38.log ++ M1.log)), [qT (decide ((((i : Nat) : Int)) < (((k : Nat) : Int)))), .q (.inb (((i : Nat) : Int)) k) (ansB true), qL 3 ob (oo + (((i : Nat) : Int) : Int).toNat * 1) M (i64 x), qF (decide (x < (0 : Int))), qF (decide (x < (0 : Int))), qF (decide (x < (0 : Int))), .q (.inb (((i : Nat) : Int)) k) (ansB true), qF (decide (x < (0 : Int))), qL 3 ob (oo + (((i : Nat) : Int) : Int).toNat * 1) M (i64 x), qF (decide (x < (0 : Int))), qF (decide (x < (0 : Int))), qL 3 q 0 M (i64 (((n : Nat) : Int))), qF (decide (x < (0 : Int))), qF (decide (x < (0 : Int))), qF (decide (x ≥ (((n : Nat) : Int)))), qF (decide (x ≥ (((n : Nat) : Int)))), qF (decide (x ≥ (((n : Nat) : Int)))), qF (decide (x ≥ (((n : Nat) : Int)))), .q (.inb (((i : Nat) : Int)) k) (ansB true), qF (decide (x ≥ (((n : Nat) : Int)))), qL 3 ob (oo + (((i : Nat) : Int) : Int).toNat * 1) M (i64 x), qF (decide (x ≥ (((n : Nat) : Int)))), .q (.inb x n) (ansB true), qF (decide (x ≥ (((n : Nat) : Int)))), qL 4 h (0 + (x : Int).toNat * 1) M (.bool z1), qF (decide (x ≥ (((n : Nat) : Int)))), qF z1, qF z1, qF z1, qF z1, .q (.inb (((i : Nat) : Int)) k) (ansB true), qF z1, qL 3 ob (oo + (((i : Nat) : Int) : Int).toNat * 1) M (i64 x), qF z1, .q (.inb x n) (ansB true), qF z1, qL 4 lb (lo + (x : Int).toNat * 1) M (.bool ql), qF z1, qF ql, .q (.inb (((i : Nat) : Int)) k) (ansB true), qL 3 ob (oo + (((i : Nat) : Int) : Int).toNat * 1) M (i64 x), .q (.inb x n) (ansB true), qS 4 h (0 + (x : Int).toNat * 1) (.bool true) M M1, .q (.inb (((i : Nat) : Int)) k) (ansB true), qL 3 ob (oo + (((i : Nat) : Int) : Int).toNat * 1) (Mem.mk M1.blks M1.next M1.hide []) (i64 x), qC 16 [(pt rb 0), (i64 x)] (Mem.mk M1.blks M1.next M1.hide []) (.slice a16 (refRow .fr l x l.length).length c17) M21, .ln a16 (refRow .fr l x l.length).length c17, .q (.inb (((i : Nat) : Int)) k) (ansB true), qL 3 ob (oo + (((i : Nat) : Int) : Int).toNat * 1) (Mem.mk M21.blks M21.next (hides 1792 [⟨5, 1, M1.next, M21.next⟩, ⟨4, 1, M1.next, M1.next⟩] ++ M1.hide) M21.log) (i64 x), qT (Nat.blt ob M1.next), qC 17 [(pt rb 0), (i64 x)] (Mem.mk M21.blks M21.next M1.hide M21.log) (.slice a33 (refRow .to l x l.length).length c34) M38, .ln a33 (refRow .to l x l.length).length c34, qT (apartN [ob] M38.log), qF (decide ((IntKind.wrap .i64 (((((refRow .fr l x l.length).length : Nat) : Int)) + ((((refRow .to l x l.length).length : Nat) : Int)))) < d)), qF (decide ((IntKind.wrap .i64 (((((refRow .fr l x l.length).length : Nat) : Int)) + ((((refRow .to l x l.length).length : Nat) : Int)))) < d)), qF (decide ((IntKind.wrap .i64 (((((refRow .fr l x l.length).length : Nat) : Int)) + ((((refRow .to l x l.length).length : Nat) : Int)))) < d)), qT (decide ((((i : Nat) : Int)) > (0 : Int))), qT (decide ((((i : Nat) : Int)) > (0 : Int))), qT (decide ((((i : Nat) : Int)) > (0 : Int))), qF (decide ((IntKind.wrap .i64 (((((refRow .fr l x l.length).length : Nat) : Int)) + ((((refRow .to l x l.length).length : Nat) : Int)))) < d)), qT (decide ((((i : Nat) : Int)) > (0 : Int))), qF (decide ((IntKind.wrap .i64 (((((refRow .fr l x l.length).length : Nat) : Int)) + ((((refRow .to l x l.length).length : Nat) : Int)))) < d)), qF ((IntKind.wrap .i64 (((((refRow .fr l x l.length).length : Nat) : Int)) + ((((refRow .to l x l.length).length : Nat) : Int)))) == d), qF ((IntKind.wrap .i64 (((((refRow .fr l x l.length).length : Nat) : Int)) + ((((refRow .to l x l.length).length : Nat) : Int)))) == d), qF ((IntKind.wrap .i64 (((((refRow .fr l x l.length).length : Nat) : Int)) + ((((refRow .to l x l.length).length : Nat) : Int)))) == d), qF ((IntKind.wrap .i64 (((((refRow .fr l x l.length).length : Nat) : Int)) + ((((refRow .to l x l.length).length : Nat) : Int)))) == d), qF ((IntKind.wrap .i64 (((((refRow .fr l x l.length).length : Nat) : Int)) + ((((refRow .to l x l.length).length : Nat) : Int)))) == d), qF ((IntKind.wrap .i64 (((((refRow .fr l x l.length).length : Nat) : Int)) + ((((refRow .to l x l.length).length : Nat) : Int)))) == d), qF ((IntKind.wrap .i64 (((((refRow .fr l x l.length).length : Nat) : Int)) + ((((refRow .to l x l.length).length : Nat) : Int)))) == d), qF ((IntKind.wrap .i64 (((((refRow .fr l x l.length).length : Nat) : Int)) + ((((refRow .to l x l.length).length : Nat) : Int)))) == d), qF ((IntKind.wrap .i64 (((((refRow .fr l x l.length).length : Nat) : Int)) + ((((refRow .to l x l.length).length : Nat) : Int)))) == d), qF ((IntKind.wrap .i64 (((((refRow .fr l x l.length).length : Nat) : Int)) + ((((refRow .to l x l.length).length : Nat) : Int)))) == d), qF (decide ((IntKind.wrap .i64 (((((refRow .fr l x l.length).length : Nat) : Int)) + ((((refRow .to l x l.length).length : Nat) : Int)))) < d)), qF ((IntKind.wrap .i64 (((((refRow .fr l x l.length).length : Nat) : Int)) + ((((refRow .to l x l.length).length : Nat) : Int)))) == d), qF (decide ((IntKind.wrap .i64 (((((refRow .fr l x l.length).length : Nat) : Int)) + ((((refRow .to l x l.length).length : Nat) : Int)))) < d))]) := by kernel_rfl
theorem r4w8 (q h rb lb lo cl ob oo k co i n : Nat) (d x y : Int) (ql : Bool) (VE : Value) (cr : List Value) (l : List E4) (z1 : Bool) {M M0 : Mem} (hM : MemOk M) (X0 : Ext M0 M) (gq : M.get q = some ⟨[i64 ((n : Nat) : Int), VE], 26, 2, 0, true⟩) (nh : M0.next ≤ h) (gh : M.get h = some ⟨cr, 4, 1, 0, true⟩) (dqh : q ≠ h) (href : pRefA 53 (n, l) (pt rb 0) M0) (hl400 : l.length ≤ 400) (hob : ob < M0.next) (cc0 : (decide ((((i : Nat) : Int)) < (((k : Nat) : Int)))) = true) (cc1 : (decide (x < (0 : Int))) = false) (cc2 : (decide (x ≥ (((n : Nat) : Int)))) = false) (cc3 : (z1) = false) (cc4 : (ql) = false) (cc5 : (decide ((IntKind.wrap .i64 (((((refRow .fr l x l.length).length : Nat) : Int)) + ((((refRow .to l x l.length).length : Nat) : Int)))) < d)) = false) (cc6 : (decide ((((i : Nat) : Int)) > (0 : Int))) = true) (cc7 : ((IntKind.wrap .i64 (((((refRow .fr l x l.length).length : Nat) : Int)) + ((((refRow .to l x l.length).length : Nat) : Int)))) == d) = false) (hld0 : aload Try.prog 3 ⟨ob, oo + (((i : Nat) : Int) : Int).toNat * 1, none⟩ M0 = some (i64 x)) (hi1 : 0 ≤ (x : Int) ∧ (x : Int) < n) (hc2 : (cr)[0 + (x : Int).toNat * 1]? = some (.bool z1)) (hld3 : aload Try.prog 4 ⟨lb, lo + (x : Int).toNat * 1, none⟩ M0 = some (.bool ql)) (hof4 : 0 + (x : Int).toNat * 1 + 1 ≤ (cr).length) : ∃ T1 M', Rd Try.prog [] (q4.loopAt 0) Try.f4.ntmps (fr [(7, (pt q 0)), (8, (sli lb lo n cl)), (9, (sli ob oo k co)), (10, (pt rb 0)), (11, (sli h 0 n (n + 1))), (12, (i64 d)), (13, (i64 (((i : Nat) : Int))))]) M .normal T1 M' ∧ [7, 8, 9, 10, 11, 12, 13].map T1.get = [some (pt q 0), some (sli lb lo n cl), some (sli ob oo k co), some (pt rb 0), some (sli h 0 n (n + 1)), some (i64 (IntKind.wrap .i64 (((((refRow .fr l x l.length).length : Nat) : Int)) + ((((refRow .to l x l.length).length : Nat) : Int))))), some (i64 (IntKind.wrap .i64 ((((i : Nat) : Int)) + (1 : Int))))] ∧ Ext M0 M' ∧ MemOk M' ∧ M'.get q = some ⟨[(i64 (((n : Nat) : Int))), VE], 26, 2, 0, true⟩ ∧ M'.get h = some ⟨(splice cr (0 + (x : Int).toNat * 1) [(.bool true)]), 4, 1, 0, true⟩ := by
  obtain ⟨M1, q2, g3, kp4, X5, hM6, nx7⟩ := store_t (o := 0 + (x : Int).toNat * 1) (v := (.bool true)) (new := splice cr (0 + (x : Int).toNat * 1) [(.bool true)]) X0 nh hM dS4 gh rfl rfl (Nat.zero_le _) hof4 rfl
  replace g3 : M1.get h = some ⟨splice cr (0 + (x : Int).toNat * 1) [(.bool true)], 4, 1, 0, true⟩ := g3
  have g8 := (kp4 _ dqh).trans gq
  obtain ⟨R9, eR10⟩ : ∃ m : Mem, m = Mem.mk M1.blks M1.next M1.hide [] := ⟨_, rfl⟩
  have X11 : Ext (Mem.mk M0.blks M0.next M0.hide []) R9 := by rw [eR10]; exact Ext.aside (X5)
  have lg12 : R9.log = [] := by rw [eR10]
  have nxR9 : R9.next = M1.next := by rw [eR10]
  have hM13 : MemOk R9 := by rw [eR10]; exact MemOk.log hM6
  have ltobM1 : ob < M1.next := Nat.lt_of_lt_of_le hob (X5).next
  have ltqM1 : q < M1.next := by have h := Mem.lt_of_get g8; exact h
  have g14 : R9.get q = some ⟨[(i64 (((n : Nat) : Int))), VE], 26, 2, 0, true⟩ := by rw [eR10]; exact g8
  have lthM1 : h < M1.next := by have h := Mem.lt_of_get g3; exact h
  have g15 : R9.get h = some ⟨(splice cr (0 + (x : Int).toNat * 1) [(.bool true)]), 4, 1, 0, true⟩ := by rw [eR10]; exact g3
  have ltqM21 := Mem.lt_of_get g14
  have lthM21 := Mem.lt_of_get g15
  obtain ⟨w19, N20, M21, p22, l23, e24, E25, hM26, F27⟩ := call_fc (x := ((n, l), x)) hM13 con16 (⟨⟨_, _, rfl, AP.Ext (R := (pRefA 53)) (AP.log (R := (pRefA 53)) href) X11, rfl⟩, hl400⟩)
  have nx28 := E25.next
  have g29 := E25.old g14
  have g30 := E25.old g15
  have G18 : pInts (refRow .fr l x l.length) w19 M21 := newR.out (R := pInts) F27
  obtain ⟨a16, c17, ew19⟩ := GRowsAt.form G18
  subst ew19
  have lna16 := GRowsAt.ln G18
  have lg31 : M21.log = [] := by rw [← e24]; exact lg12
  have X32 := X11.trans E25
  have ltqM38 := Mem.lt_of_get g29
  have lthM38 := Mem.lt_of_get g30
  obtain ⟨w36, N37, M38, p39, l40, e41, E42, hM43, F44⟩ := call_fc (x := ((n, l), x)) hM26 con17 (⟨⟨_, _, rfl, AP.Ext (R := (pRefA 53)) (AP.log (R := (pRefA 53)) href) X32, rfl⟩, hl400⟩)
  have nx45 := E42.next
  have g46 := E42.old g29
  have g47 := E42.old g30
  have G35 : pInts (refRow .to l x l.length) w36 M38 := newR.out (R := pInts) F44
  obtain ⟨a33, c34, ew36⟩ := GRowsAt.form G35
  subst ew36
  have lna33 := GRowsAt.ln G35
  have lg48 : M38.log = [] := by rw [← e41]; exact lg31
  have X49 := X32.trans E42
  obtain ⟨M50, ef51⟩ : ∃ m : Mem, m = (Mem.mk M38.blks M38.next M38.hide (M38.log ++ M1.log)) := ⟨_, rfl⟩
  have X52 : Ext M0 M50 := by rw [ef51]; exact Ext.join (X5) (X49)
  have hM53 : MemOk M50 := by rw [ef51]; exact hM43
  have g54 : M50.get q = some ⟨[(i64 (((n : Nat) : Int))), VE], 26, 2, 0, true⟩ := by rw [ef51]; exact g46
  have g55 : M50.get h = some ⟨(splice cr (0 + (x : Int).toNat * 1) [(.bool true)]), 4, 1, 0, true⟩ := by rw [ef51]; exact g47
  have hraw := r4w8_raw q h rb lb lo cl ob oo k co i n d x y ql VE cr l M z1 M1 a16 c17 M21 a33 c34 M38
  have rw0 : Mem.mk M1.blks M1.next M1.hide [] = R9 := eR10.symm
  have rw1 : Mem.mk M21.blks M21.next M1.hide M21.log = M21 := by rw [(show M1.hide = M21.hide from ((X5).hide.trans (X32).hide.symm))]
  have rw2 : Mem.mk M21.blks M21.next (hides 1792 [⟨5, 1, M1.next, M21.next⟩, ⟨4, 1, M1.next, M1.next⟩] ++ M1.hide) M21.log = hidx (hides 1792 [⟨5, 1, M1.next, M21.next⟩, ⟨4, 1, M1.next, M1.next⟩]) M21 := by rw [(show M1.hide = M21.hide from ((X5).hide.trans (X32).hide.symm))]; rfl
  have rw3 : Mem.mk M38.blks M38.next M1.hide M38.log = M38 := by rw [(show M1.hide = M38.hide from ((X5).hide.trans (X49).hide.symm))]
  have rw4 : (Mem.mk M38.blks M38.next M1.hide (M38.log ++ M1.log)) = (Mem.mk M38.blks M38.next M38.hide (M38.log ++ M1.log)) := by rw [(show M1.hide = M38.hide from ((X5).hide.trans (X49).hide.symm))]
  have rw5 : (Mem.mk M38.blks M38.next M38.hide (M38.log ++ M1.log)) = M50 := ef51.symm
  try rw [rw0] at hraw
  try rw [rw1] at hraw
  try rw [rw2] at hraw
  try rw [rw3] at hraw
  try rw [rw4] at hraw
  try rw [rw5] at hraw
  obtain ⟨T1, h1, h2⟩ := Rd.told noNumP mixedP (fun B => specsB_ok (k := []) (hS4_16_17 B) (fun p hp => by cases hp)) (fun _ _ => rfl) hraw (hk (bT cc0) (hk (q_inb (by omega) (by simp at cc0; omega)) (hk (q_ld (aload_ext X0 hld0)) (hk (bF cc1) (hk (bF cc1) (hk (bF cc1) (hk (q_inb (by omega) (by simp at cc0; omega)) (hk (bF cc1) (hk (q_ld (aload_ext X0 hld0)) (hk (bF cc1) (hk (bF cc1) (hk (lC dC3 gq rfl) (hk (bF cc1) (hk (bF cc1) (hk (bF cc2) (hk (bF cc2) (hk (bF cc2) (hk (bF cc2) (hk (q_inb (by omega) (by simp at cc0; omega)) (hk (bF cc2) (hk (q_ld (aload_ext X0 hld0)) (hk (bF cc2) (hk (q_inb hi1.1 hi1.2) (hk (bF cc2) (hk (q_ld (aload_cell (a := ⟨h, 0 + (x : Int).toNat * 1, none⟩) dC4 gh hc2)) (hk (bF cc2) (hk (bF cc3) (hk (bF cc3) (hk (bF cc3) (hk (bF cc3) (hk (q_inb (by omega) (by simp at cc0; omega)) (hk (bF cc3) (hk (q_ld (aload_ext X0 hld0)) (hk (bF cc3) (hk (q_inb hi1.1 hi1.2) (hk (bF cc3) (hk (q_ld (aload_ext X0 hld3)) (hk (bF cc3) (hk (bF cc4) (hk (q_inb (by omega) (by simp at cc0; omega)) (hk (q_ld (aload_ext X0 hld0)) (hk (q_inb hi1.1 hi1.2) (hk (q_st q2) (hk (q_inb (by omega) (by simp at cc0; omega)) (hk (q_ld (aload_ext X11 hld0)) (hk (q_call rfl p22 l23 e24) (hk (lN lna16) (hk (q_inb (by omega) (by simp at cc0; omega)) (hk (q_ld (aload_mono (fun _ g => hidx_get.2 ⟨hides_low (by simp; omega), g⟩) (aload_ext X32 hld0))) (hk (q_lt ltobM1) (hk (q_call rfl p39 l40 e41) (hk (lN lna33) (hk (q_apart (by rw [lg48]; simp <;> omega)) (hk (bF cc5) (hk (bF cc5) (hk (bF cc5) (hk (bT cc6) (hk (bT cc6) (hk (bT cc6) (hk (bF cc5) (hk (bT cc6) (hk (bF cc5) (hk (bF cc7) (hk (bF cc7) (hk (bF cc7) (hk (bF cc7) (hk (bF cc7) (hk (bF cc7) (hk (bF cc7) (hk (bF cc7) (hk (bF cc7) (hk (bF cc7) (hk (bF cc5) (hk (bF cc7) (hk (bF cc5) hn)))))))))))))))))))))))))))))))))))))))))))))))))))))))))))))))))))))))))))
  exact ⟨T1, M50, h1, h2, X52, hM53, g54, g55⟩
theorem r4w7_raw (q h rb lb lo cl ob oo k co i n : Nat) (d x y : Int) (ql : Bool) (VE : Value) (cr : List Value) (l : List E4) (M : Mem) (z1 : Bool) (M1 : Mem) (a16 : Option Addr) (c17 : Nat) (M21 : Mem) (a33 : Option Addr) (c34 : Nat) (M38 : Mem) : oR Try.prog [] 120 Try.f4 (q4.loopAt 0) [(7, (pt q 0)), (8, (sli lb lo n cl)), (9, (sli ob oo k co)), (10, (pt rb 0)), (11, (sli h 0 n (n + 1))), (12, (i64 d)), (13, (i64 (((i : Nat) : Int))))] M [ttT 8, ttT 14, ttL 16 (i64 x), ttF 21, ttF 23, ttF 25, ttT 26, ttF 27, ttL 28 (i64 x), ttF 29, ttF 31, ttL 32 (i64 (((n : Nat) : Int))), ttF 33, ttF 36, ttF 39, ttF 41, ttF 43, ttF 45, ttT 46, ttF 47, ttL 48 (i64 x), ttF 49, ttT 50, ttF 51, ttL 52 (.bool z1), ttF 54, ttF 57, ttF 59, ttF 61, ttF 63, ttT 64, ttF 65, ttL 66 (i64 x), ttF 67, ttT 68, ttF 69, ttL 70 (.bool ql), ttF 72, ttF 73, ttT 81, ttL 83 (i64 x), ttT 85, ttS 87 M1, ttT 95, ttL 97 (i64 x), ttV 99 (.slice a16 (refRow .fr l x l.length).length c17) M21, ttT 101, ttT 109, ttL 111 (i64 x), ttV 113 (.slice a33 (refRow .to l x l.length).length c34) M38, ttT 115, ttF 128, ttF 130, ttF 132, ttF 134, ttF 136, ttF 138, ttF 140, ttF 141, ttF 142, ttF 164, ttF 167] [7, 8, 9, 10, 11, 12, 13] = some (.normal, [some (pt q 0), some (sli lb lo n cl), some (sli ob oo k co), some (pt rb 0), some (sli h 0 n (n + 1)), some (i64 (IntKind.wrap .i64 (((((refRow .fr l x l.length).length : Nat) : Int)) + ((((refRow .to l x l.length).length : Nat) : Int))))), some (i64 (IntKind.wrap .i64 ((((i : Nat) : Int)) + (1 : Int))))], (Mem.mk M38.blks M38.next M1.hide (M38.log ++ M1.log)), [qT (decide ((((i : Nat) : Int)) < (((k : Nat) : Int)))), .q (.inb (((i : Nat) : Int)) k) (ansB true), qL 3 ob (oo + (((i : Nat) : Int) : Int).toNat * 1) M (i64 x), qF (decide (x < (0 : Int))), qF (decide (x < (0 : Int))), qF (decide (x < (0 : Int))), .q (.inb (((i : Nat) : Int)) k) (ansB true), qF (decide (x < (0 : Int))), qL 3 ob (oo + (((i : Nat) : Int) : Int).toNat * 1) M (i64 x), qF (decide (x < (0 : Int))), qF (decide (x < (0 : Int))), qL 3 q 0 M (i64 (((n : Nat) : Int))), qF (decide (x < (0 : Int))), qF (decide (x < (0 : Int))), qF (decide (x ≥ (((n : Nat) : Int)))), qF (decide (x ≥ (((n : Nat) : Int)))), qF (decide (x ≥ (((n : Nat) : Int)))), qF (decide (x ≥ (((n : Nat) : Int)))), .q (.inb (((i : Nat) : Int)) k) (ansB true), qF (decide (x ≥ (((n : Nat) : Int)))), qL 3 ob (oo + (((i : Nat) : Int) : Int).toNat * 1) M (i64 x), qF (decide (x ≥ (((n : Nat) : Int)))), .q (.inb x n) (ansB true), qF (decide (x ≥ (((n : Nat) : Int)))), qL 4 h (0 + (x : Int).toNat * 1) M (.bool z1), qF (decide (x ≥ (((n : Nat) : Int)))), qF z1, qF z1, qF z1, qF z1, .q (.inb (((i : Nat) : Int)) k) (ansB true), qF z1, qL 3 ob (oo + (((i : Nat) : Int) : Int).toNat * 1) M (i64 x), qF z1, .q (.inb x n) (ansB true), qF z1, qL 4 lb (lo + (x : Int).toNat * 1) M (.bool ql), qF z1, qF ql, .q (.inb (((i : Nat) : Int)) k) (ansB true), qL 3 ob (oo + (((i : Nat) : Int) : Int).toNat * 1) M (i64 x), .q (.inb x n) (ansB true), qS 4 h (0 + (x : Int).toNat * 1) (.bool true) M M1, .q (.inb (((i : Nat) : Int)) k) (ansB true), qL 3 ob (oo + (((i : Nat) : Int) : Int).toNat * 1) (Mem.mk M1.blks M1.next M1.hide []) (i64 x), qC 16 [(pt rb 0), (i64 x)] (Mem.mk M1.blks M1.next M1.hide []) (.slice a16 (refRow .fr l x l.length).length c17) M21, .ln a16 (refRow .fr l x l.length).length c17, .q (.inb (((i : Nat) : Int)) k) (ansB true), qL 3 ob (oo + (((i : Nat) : Int) : Int).toNat * 1) (Mem.mk M21.blks M21.next (hides 1792 [⟨5, 1, M1.next, M21.next⟩, ⟨4, 1, M1.next, M1.next⟩] ++ M1.hide) M21.log) (i64 x), qT (Nat.blt ob M1.next), qC 17 [(pt rb 0), (i64 x)] (Mem.mk M21.blks M21.next M1.hide M21.log) (.slice a33 (refRow .to l x l.length).length c34) M38, .ln a33 (refRow .to l x l.length).length c34, qT (apartN [ob] M38.log), qF (decide ((IntKind.wrap .i64 (((((refRow .fr l x l.length).length : Nat) : Int)) + ((((refRow .to l x l.length).length : Nat) : Int)))) < d)), qF (decide ((IntKind.wrap .i64 (((((refRow .fr l x l.length).length : Nat) : Int)) + ((((refRow .to l x l.length).length : Nat) : Int)))) < d)), qF (decide ((IntKind.wrap .i64 (((((refRow .fr l x l.length).length : Nat) : Int)) + ((((refRow .to l x l.length).length : Nat) : Int)))) < d)), qF (decide ((((i : Nat) : Int)) > (0 : Int))), qF (decide ((((i : Nat) : Int)) > (0 : Int))), qF (decide ((((i : Nat) : Int)) > (0 : Int))), qF (decide ((IntKind.wrap .i64 (((((refRow .fr l x l.length).length : Nat) : Int)) + ((((refRow .to l x l.length).length : Nat) : Int)))) < d)), qF (decide ((((i : Nat) : Int)) > (0 : Int))), qF (decide ((IntKind.wrap .i64 (((((refRow .fr l x l.length).length : Nat) : Int)) + ((((refRow .to l x l.length).length : Nat) : Int)))) < d)), qF (decide ((IntKind.wrap .i64 (((((refRow .fr l x l.length).length : Nat) : Int)) + ((((refRow .to l x l.length).length : Nat) : Int)))) < d)), qF (decide ((IntKind.wrap .i64 (((((refRow .fr l x l.length).length : Nat) : Int)) + ((((refRow .to l x l.length).length : Nat) : Int)))) < d))]) := by kernel_rfl
theorem r4w7 (q h rb lb lo cl ob oo k co i n : Nat) (d x y : Int) (ql : Bool) (VE : Value) (cr : List Value) (l : List E4) (z1 : Bool) {M M0 : Mem} (hM : MemOk M) (X0 : Ext M0 M) (gq : M.get q = some ⟨[i64 ((n : Nat) : Int), VE], 26, 2, 0, true⟩) (nh : M0.next ≤ h) (gh : M.get h = some ⟨cr, 4, 1, 0, true⟩) (dqh : q ≠ h) (href : pRefA 53 (n, l) (pt rb 0) M0) (hl400 : l.length ≤ 400) (hob : ob < M0.next) (cc0 : (decide ((((i : Nat) : Int)) < (((k : Nat) : Int)))) = true) (cc1 : (decide (x < (0 : Int))) = false) (cc2 : (decide (x ≥ (((n : Nat) : Int)))) = false) (cc3 : (z1) = false) (cc4 : (ql) = false) (cc5 : (decide ((IntKind.wrap .i64 (((((refRow .fr l x l.length).length : Nat) : Int)) + ((((refRow .to l x l.length).length : Nat) : Int)))) < d)) = false) (cc6 : (decide ((((i : Nat) : Int)) > (0 : Int))) = false) (hld0 : aload Try.prog 3 ⟨ob, oo + (((i : Nat) : Int) : Int).toNat * 1, none⟩ M0 = some (i64 x)) (hi1 : 0 ≤ (x : Int) ∧ (x : Int) < n) (hc2 : (cr)[0 + (x : Int).toNat * 1]? = some (.bool z1)) (hld3 : aload Try.prog 4 ⟨lb, lo + (x : Int).toNat * 1, none⟩ M0 = some (.bool ql)) (hof4 : 0 + (x : Int).toNat * 1 + 1 ≤ (cr).length) : ∃ T1 M', Rd Try.prog [] (q4.loopAt 0) Try.f4.ntmps (fr [(7, (pt q 0)), (8, (sli lb lo n cl)), (9, (sli ob oo k co)), (10, (pt rb 0)), (11, (sli h 0 n (n + 1))), (12, (i64 d)), (13, (i64 (((i : Nat) : Int))))]) M .normal T1 M' ∧ [7, 8, 9, 10, 11, 12, 13].map T1.get = [some (pt q 0), some (sli lb lo n cl), some (sli ob oo k co), some (pt rb 0), some (sli h 0 n (n + 1)), some (i64 (IntKind.wrap .i64 (((((refRow .fr l x l.length).length : Nat) : Int)) + ((((refRow .to l x l.length).length : Nat) : Int))))), some (i64 (IntKind.wrap .i64 ((((i : Nat) : Int)) + (1 : Int))))] ∧ Ext M0 M' ∧ MemOk M' ∧ M'.get q = some ⟨[(i64 (((n : Nat) : Int))), VE], 26, 2, 0, true⟩ ∧ M'.get h = some ⟨(splice cr (0 + (x : Int).toNat * 1) [(.bool true)]), 4, 1, 0, true⟩ := by
  obtain ⟨M1, q2, g3, kp4, X5, hM6, nx7⟩ := store_t (o := 0 + (x : Int).toNat * 1) (v := (.bool true)) (new := splice cr (0 + (x : Int).toNat * 1) [(.bool true)]) X0 nh hM dS4 gh rfl rfl (Nat.zero_le _) hof4 rfl
  replace g3 : M1.get h = some ⟨splice cr (0 + (x : Int).toNat * 1) [(.bool true)], 4, 1, 0, true⟩ := g3
  have g8 := (kp4 _ dqh).trans gq
  obtain ⟨R9, eR10⟩ : ∃ m : Mem, m = Mem.mk M1.blks M1.next M1.hide [] := ⟨_, rfl⟩
  have X11 : Ext (Mem.mk M0.blks M0.next M0.hide []) R9 := by rw [eR10]; exact Ext.aside (X5)
  have lg12 : R9.log = [] := by rw [eR10]
  have nxR9 : R9.next = M1.next := by rw [eR10]
  have hM13 : MemOk R9 := by rw [eR10]; exact MemOk.log hM6
  have ltobM1 : ob < M1.next := Nat.lt_of_lt_of_le hob (X5).next
  have ltqM1 : q < M1.next := by have h := Mem.lt_of_get g8; exact h
  have g14 : R9.get q = some ⟨[(i64 (((n : Nat) : Int))), VE], 26, 2, 0, true⟩ := by rw [eR10]; exact g8
  have lthM1 : h < M1.next := by have h := Mem.lt_of_get g3; exact h
  have g15 : R9.get h = some ⟨(splice cr (0 + (x : Int).toNat * 1) [(.bool true)]), 4, 1, 0, true⟩ := by rw [eR10]; exact g3
  have ltqM21 := Mem.lt_of_get g14
  have lthM21 := Mem.lt_of_get g15
  obtain ⟨w19, N20, M21, p22, l23, e24, E25, hM26, F27⟩ := call_fc (x := ((n, l), x)) hM13 con16 (⟨⟨_, _, rfl, AP.Ext (R := (pRefA 53)) (AP.log (R := (pRefA 53)) href) X11, rfl⟩, hl400⟩)
  have nx28 := E25.next
  have g29 := E25.old g14
  have g30 := E25.old g15
  have G18 : pInts (refRow .fr l x l.length) w19 M21 := newR.out (R := pInts) F27
  obtain ⟨a16, c17, ew19⟩ := GRowsAt.form G18
  subst ew19
  have lna16 := GRowsAt.ln G18
  have lg31 : M21.log = [] := by rw [← e24]; exact lg12
  have X32 := X11.trans E25
  have ltqM38 := Mem.lt_of_get g29
  have lthM38 := Mem.lt_of_get g30
  obtain ⟨w36, N37, M38, p39, l40, e41, E42, hM43, F44⟩ := call_fc (x := ((n, l), x)) hM26 con17 (⟨⟨_, _, rfl, AP.Ext (R := (pRefA 53)) (AP.log (R := (pRefA 53)) href) X32, rfl⟩, hl400⟩)
  have nx45 := E42.next
  have g46 := E42.old g29
  have g47 := E42.old g30
  have G35 : pInts (refRow .to l x l.length) w36 M38 := newR.out (R := pInts) F44
  obtain ⟨a33, c34, ew36⟩ := GRowsAt.form G35
  subst ew36
  have lna33 := GRowsAt.ln G35
  have lg48 : M38.log = [] := by rw [← e41]; exact lg31
  have X49 := X32.trans E42
  obtain ⟨M50, ef51⟩ : ∃ m : Mem, m = (Mem.mk M38.blks M38.next M38.hide (M38.log ++ M1.log)) := ⟨_, rfl⟩
  have X52 : Ext M0 M50 := by rw [ef51]; exact Ext.join (X5) (X49)
  have hM53 : MemOk M50 := by rw [ef51]; exact hM43
  have g54 : M50.get q = some ⟨[(i64 (((n : Nat) : Int))), VE], 26, 2, 0, true⟩ := by rw [ef51]; exact g46
  have g55 : M50.get h = some ⟨(splice cr (0 + (x : Int).toNat * 1) [(.bool true)]), 4, 1, 0, true⟩ := by rw [ef51]; exact g47
  have hraw := r4w7_raw q h rb lb lo cl ob oo k co i n d x y ql VE cr l M z1 M1 a16 c17 M21 a33 c34 M38
  have rw0 : Mem.mk M1.blks M1.next M1.hide [] = R9 := eR10.symm
  have rw1 : Mem.mk M21.blks M21.next M1.hide M21.log = M21 := by rw [(show M1.hide = M21.hide from ((X5).hide.trans (X32).hide.symm))]
  have rw2 : Mem.mk M21.blks M21.next (hides 1792 [⟨5, 1, M1.next, M21.next⟩, ⟨4, 1, M1.next, M1.next⟩] ++ M1.hide) M21.log = hidx (hides 1792 [⟨5, 1, M1.next, M21.next⟩, ⟨4, 1, M1.next, M1.next⟩]) M21 := by rw [(show M1.hide = M21.hide from ((X5).hide.trans (X32).hide.symm))]; rfl
  have rw3 : Mem.mk M38.blks M38.next M1.hide M38.log = M38 := by rw [(show M1.hide = M38.hide from ((X5).hide.trans (X49).hide.symm))]
  have rw4 : (Mem.mk M38.blks M38.next M1.hide (M38.log ++ M1.log)) = (Mem.mk M38.blks M38.next M38.hide (M38.log ++ M1.log)) := by rw [(show M1.hide = M38.hide from ((X5).hide.trans (X49).hide.symm))]
  have rw5 : (Mem.mk M38.blks M38.next M38.hide (M38.log ++ M1.log)) = M50 := ef51.symm
  try rw [rw0] at hraw
  try rw [rw1] at hraw
  try rw [rw2] at hraw
  try rw [rw3] at hraw
  try rw [rw4] at hraw
  try rw [rw5] at hraw
  obtain ⟨T1, h1, h2⟩ := Rd.told noNumP mixedP (fun B => specsB_ok (k := []) (hS4_16_17 B) (fun p hp => by cases hp)) (fun _ _ => rfl) hraw (hk (bT cc0) (hk (q_inb (by omega) (by simp at cc0; omega)) (hk (q_ld (aload_ext X0 hld0)) (hk (bF cc1) (hk (bF cc1) (hk (bF cc1) (hk (q_inb (by omega) (by simp at cc0; omega)) (hk (bF cc1) (hk (q_ld (aload_ext X0 hld0)) (hk (bF cc1) (hk (bF cc1) (hk (lC dC3 gq rfl) (hk (bF cc1) (hk (bF cc1) (hk (bF cc2) (hk (bF cc2) (hk (bF cc2) (hk (bF cc2) (hk (q_inb (by omega) (by simp at cc0; omega)) (hk (bF cc2) (hk (q_ld (aload_ext X0 hld0)) (hk (bF cc2) (hk (q_inb hi1.1 hi1.2) (hk (bF cc2) (hk (q_ld (aload_cell (a := ⟨h, 0 + (x : Int).toNat * 1, none⟩) dC4 gh hc2)) (hk (bF cc2) (hk (bF cc3) (hk (bF cc3) (hk (bF cc3) (hk (bF cc3) (hk (q_inb (by omega) (by simp at cc0; omega)) (hk (bF cc3) (hk (q_ld (aload_ext X0 hld0)) (hk (bF cc3) (hk (q_inb hi1.1 hi1.2) (hk (bF cc3) (hk (q_ld (aload_ext X0 hld3)) (hk (bF cc3) (hk (bF cc4) (hk (q_inb (by omega) (by simp at cc0; omega)) (hk (q_ld (aload_ext X0 hld0)) (hk (q_inb hi1.1 hi1.2) (hk (q_st q2) (hk (q_inb (by omega) (by simp at cc0; omega)) (hk (q_ld (aload_ext X11 hld0)) (hk (q_call rfl p22 l23 e24) (hk (lN lna16) (hk (q_inb (by omega) (by simp at cc0; omega)) (hk (q_ld (aload_mono (fun _ g => hidx_get.2 ⟨hides_low (by simp; omega), g⟩) (aload_ext X32 hld0))) (hk (q_lt ltobM1) (hk (q_call rfl p39 l40 e41) (hk (lN lna33) (hk (q_apart (by rw [lg48]; simp <;> omega)) (hk (bF cc5) (hk (bF cc5) (hk (bF cc5) (hk (bF cc6) (hk (bF cc6) (hk (bF cc6) (hk (bF cc5) (hk (bF cc6) (hk (bF cc5) (hk (bF cc5) (hk (bF cc5) hn))))))))))))))))))))))))))))))))))))))))))))))))))))))))))))))))
  exact ⟨T1, M50, h1, h2, X52, hM53, g54, g55⟩
theorem r4x_raw (q h rb lb lo cl k co i n : Nat) (ao : Option Addr) (d : Int) (M : Mem)  : oR Try.prog [] 60 Try.f4 (q4.loopAt 0) [(7, (pt q 0)), (8, (sli lb lo n cl)), (9, (.slice ao k co)), (10, (pt rb 0)), (11, (sli h 0 n (n + 1))), (12, (i64 d)), (13, (i64 (((i : Nat) : Int))))] M [ttT 5, ttF 8] [7, 8, 11] = some ((.exit 0), [some (pt q 0), some (sli lb lo n cl), some (sli h 0 n (n + 1))], M, [.ln ao k co, qF (decide ((((i : Nat) : Int)) < (((k : Nat) : Int))))]) := by kernel_rfl
theorem r4x (q h rb lb lo cl k co i n : Nat) (ao : Option Addr) (d : Int) {M : Mem} (hln : ao.isNone = true → k = 0 ∧ co = 0) (cc0 : (decide ((((i : Nat) : Int)) < (((k : Nat) : Int)))) = false) : ∃ T1, Rd Try.prog [] (q4.loopAt 0) Try.f4.ntmps (fr [(7, (pt q 0)), (8, (sli lb lo n cl)), (9, (.slice ao k co)), (10, (pt rb 0)), (11, (sli h 0 n (n + 1))), (12, (i64 d)), (13, (i64 (((i : Nat) : Int))))]) M (.exit 0) T1 M ∧ [7, 8, 11].map T1.get = [some (pt q 0), some (sli lb lo n cl), some (sli h 0 n (n + 1))] := by
  have hraw := r4x_raw q h rb lb lo cl k co i n ao d M  
  obtain ⟨T1, h1, h2⟩ := Rd.told noNumP mixedP (specs_none Try.prog) (fun _ _ => rfl) hraw (hk (lN hln) (hk (bF cc0) hn))
  exact ⟨T1, h1, h2⟩
theorem loop4 {q h rb n : Nat} {al ao : Option Addr} {cl co : Nat} {VE : Value} {L : List Bool} {o : List Int} {l : List E4} {M0 M : Mem} (hM : MemOk M) (X : Ext M0 M) (hs : pBools L (.slice al n cl) M0) (ho : pInts o (.slice ao o.length co) M0) (href : pRefA 53 (n, l) (pt rb 0) M0) (hl400 : l.length ≤ 400) (hn : 0 < n ∧ n ≤ 60) (gq : M.get q = some ⟨[i64 ((n : Nat) : Int), VE], 26, 2, 0, true⟩) (nh : M0.next ≤ h) (gh : M.get h = some ⟨List.replicate n (.bool false), 4, 1, 0, true⟩) (dqh : q ≠ h) (hr : ∀ x ∈ o, 0 ≤ x ∧ x < (n : Int) ∧ L[x.toNat]? = some false) (hp : o.Pairwise (ltD l)) (hol : o.length ≤ n) :
    ∃ M', LoopR Try.prog [] (q4.loopAt 0) Try.f4.ntmps (fr [(7, pt q 0), (8, .slice al n cl), (9, .slice ao o.length co), (10, pt rb 0), (11, sli h 0 n (n + 1)), (12, i64 ((0 : Nat) : Int)), (13, i64 ((0 : Nat) : Int))]) M (.exit 0) (fr [(7, pt q 0), (8, .slice al n cl), (11, sli h 0 n (n + 1))]) M' ∧ Ext M0 M' ∧ MemOk M' ∧ M'.get q = some ⟨[i64 ((n : Nat) : Int), VE], 26, 2, 0, true⟩ ∧ M'.get h = some ⟨(memT o n).map .bool, 4, 1, 0, true⟩ := by
  have n1 := GRowsAt.len_eq hs
  obtain ⟨lb, lo, rfl, _⟩ := form_pos hs (by omega)
  obtain ⟨_, M', h1, h2, h3, h4, h5⟩ := LoopR.for (P := Try.prog) (GL := []) (b := q4.loopAt 0) (nt := Try.f4.ntmps) (id := 0) (σ := Unit) (n := o.length) (Inv := fun i _ M1 => Ext M0 M1 ∧ MemOk M1 ∧ M1.get q = some ⟨[i64 ((n : Nat) : Int), VE], 26, 2, 0, true⟩ ∧ M1.get h = some ⟨(memT (o.take i) n).map .bool, 4, 1, 0, true⟩)
    (F := fun i _ => [(7, pt q 0), (8, sli lb lo n cl), (9, .slice ao o.length co), (10, pt rb 0), (11, sli h 0 n (n + 1)), (12, i64 ((dAt l o i : Nat) : Int)), (13, i64 ((i : Nat) : Int))]) (O := fun _ => [(7, pt q 0), (8, sli lb lo n cl), (11, sli h 0 n (n + 1))])
    (by
      rintro i _ M1 hi ⟨X1, hM1, hg, hh⟩
      obtain ⟨ob, oo, rfl, _⟩ := form_pos ho (by omega)
      have ht : o[i]? = some o[i] := List.getElem?_eq_getElem hi
      obtain ⟨c1, c2, c3⟩ := hr _ (List.getElem_mem hi)
      have hml := memT_len (o.take i) n
      have lx := ld_one (P := Try.prog) (ty := 3) ho ht rfl dC3
      have lq : aload Try.prog 4 ⟨lb, lo + (o[i] : Int).toNat * 1, none⟩ M0 = some (.bool false) := ld_one (P := Try.prog) (ty := 4) (i := o[i].toNat) hs c3 rfl dC4
      have hob := row_lt ho (by omega)
      have had0 : ((memT (o.take i) n).map Value.bool)[0 + (o[i] : Int).toNat * 1]? = some (.bool false) := by
        rw [Nat.zero_add, Nat.mul_one, List.getElem?_map, memT_at (by omega), Int.toNat_of_nonneg c1, decide_eq_false (ord_new hp hi)]; rfl
      have hd1 : ((dAt l o (i + 1) : Nat) : Int) = (((refRow .fr l o[i] l.length).length + (refRow .to l o[i] l.length).length : Nat) : Int) := by
        show ((refDeg l ((o[i]?).getD 0) : Nat) : Int) = _
        rw [ht]; rfl
      have hf1 := refRow_len .fr l o[i] l.length
      have hf2 := refRow_len .to l o[i] l.length
      have ew := wrap_add (i := (refRow .fr l o[i] l.length).length) (j := (refRow .to l o[i] l.length).length) (by omega)
      have hD : refDeg l o[i] = (refRow .fr l o[i] l.length).length + (refRow .to l o[i] l.length).length := rfl
      by_cases h0 : i = 0
      · have hd0 : dAt l o i = 0 := by rw [h0]; rfl
        obtain ⟨T1, M2, h1, h2, h3, h4, h5, h6⟩ := r4w7 q h rb lb lo cl ob oo o.length co i n ((dAt l o i : Nat) : Int) o[i] 0 false VE _ l false hM1 X1 hg nh hh dqh href hl400 hob (decide_eq_true (by omega)) (decide_eq_false (by omega)) (decide_eq_false (by omega)) rfl rfl (by rw [ew]; exact decide_eq_false (by omega)) (decide_eq_false (by omega)) lx ⟨c1, c2⟩ had0 lq (by rw [List.length_map, hml]; omega)
        rw [ew, wrap_succ (by omega)] at h2
        refine ⟨(), T1, M2, h1, ?_, h3, h4, h5, ?_⟩
        · rw [hd1]; exact h2
        · rw [h6, List.take_succ_eq_append_getElem hi, ← memT_step ⟨c1, c2⟩]
          simp only [Nat.zero_add, Nat.mul_one]
      · have hj : i - 1 < o.length := by omega
        have hlt := List.pairwise_iff_getElem.1 hp (i - 1) i hj hi (by omega)
        have hdi : dAt l o i = refDeg l o[i - 1] := by
          obtain ⟨j, rfl⟩ : ∃ j, i = j + 1 := ⟨i - 1, by omega⟩
          show refDeg l ((o[j]?).getD 0) = _
          rw [List.getElem?_eq_getElem (by omega)]; rfl
        unfold ltD at hlt
        have wp : IntKind.wrap .i64 ((((i : Nat) : Int)) - (1 : Int)) = ((i - 1 : Nat) : Int) := by
          rw [show (((i : Nat) : Int)) - (1 : Int) = ((i - 1 : Nat) : Int) by omega]
          exact Go.Am.wrap_small (by omega) (by omega)
        have ly := ld_one (P := Try.prog) (ty := 3) ho (List.getElem?_eq_getElem hj) rfl dC3
        by_cases he : (refRow .fr l o[i] l.length).length + (refRow .to l o[i] l.length).length = dAt l o i
        · obtain ⟨T1, M2, h1, h2, h3, h4, h5, h6⟩ := r4w9 q h rb lb lo cl ob oo o.length co i n ((dAt l o i : Nat) : Int) o[i] o[i - 1] false VE _ l false hM1 X1 hg nh hh dqh href hl400 hob (decide_eq_true (by omega)) (decide_eq_false (by omega)) (decide_eq_false (by omega)) rfl rfl (by rw [ew]; exact decide_eq_false (by omega)) (decide_eq_true (by omega)) (by rw [ew, he]; simp) (decide_eq_false (by omega)) lx ⟨c1, c2⟩ had0 lq (by rw [List.length_map, hml]; omega) (by rw [wp]; omega) (by rw [wp]; exact ly)
          rw [ew, wrap_succ (by omega)] at h2
          refine ⟨(), T1, M2, h1, ?_, h3, h4, h5, ?_⟩
          · rw [hd1]; exact h2
          · rw [h6, List.take_succ_eq_append_getElem hi, ← memT_step ⟨c1, c2⟩]
            simp only [Nat.zero_add, Nat.mul_one]
        · obtain ⟨T1, M2, h1, h2, h3, h4, h5, h6⟩ := r4w8 q h rb lb lo cl ob oo o.length co i n ((dAt l o i : Nat) : Int) o[i] 0 false VE _ l false hM1 X1 hg nh hh dqh href hl400 hob (decide_eq_true (by omega)) (decide_eq_false (by omega)) (decide_eq_false (by omega)) rfl rfl (by rw [ew]; exact decide_eq_false (by omega)) (decide_eq_true (by omega)) (by rw [ew]; simp only [beq_eq_false_iff_ne]; omega) lx ⟨c1, c2⟩ had0 lq (by rw [List.length_map, hml]; omega)
          rw [ew, wrap_succ (by omega)] at h2
          refine ⟨(), T1, M2, h1, ?_, h3, h4, h5, ?_⟩
          · rw [hd1]; exact h2
          · rw [h6, List.take_succ_eq_append_getElem hi, ← memT_step ⟨c1, c2⟩]
            simp only [Nat.zero_add, Nat.mul_one])
    (by
      rintro _ M1 ⟨X1, hM1, hg, _⟩
      exact r4x q h rb lb lo cl o.length co o.length n ao ((dAt l o o.length : Nat) : Int) ho.ln (decide_eq_false (by omega)))
    o.length 0 (by omega) (s := ()) (M := M) ⟨X, hM, gq, by rw [List.take_zero, memT_nil]; exact gh⟩
  rw [List.take_length] at h5
  exact ⟨M', h1, h2, h3, h4, h5⟩
theorem r4d_raw (q bb o c bb2 o2 c2 i n : Nat) (ql qh : Bool) (VE : Value) (M : Mem)  : oR Try.prog [] 60 Try.f4 (q4.loopAt 2) [(7, (pt q 0)), (8, (sli bb o n c)), (11, (sli bb2 o2 n c2)), (15, (i64 (((i : Nat) : Int))))] M [ttL 5 (i64 (((n : Nat) : Int))), ttT 8, ttT 14, ttL 16 (.bool qh), ttT 22, ttL 24 (.bool ql), ttF 27] [7, 8, 11, 15] = some (.normal, [some (pt q 0), some (sli bb o n c), some (sli bb2 o2 n c2), some (i64 (IntKind.wrap .i64 ((((i : Nat) : Int)) + (1 : Int))))], M, [qL 3 q 0 M (i64 (((n : Nat) : Int))), qT (decide ((((i : Nat) : Int)) < (((n : Nat) : Int)))), .q (.inb (((i : Nat) : Int)) n) (ansB true), qL 4 bb2 (o2 + (((i : Nat) : Int) : Int).toNat * 1) M (.bool qh), .q (.inb (((i : Nat) : Int)) n) (ansB true), qL 4 bb (o + (((i : Nat) : Int) : Int).toNat * 1) M (.bool ql), qF (qh == ql)]) := by kernel_rfl
theorem r4d (q bb o c bb2 o2 c2 i n : Nat) (ql qh : Bool) (VE : Value) {M : Mem} {M0 : Mem} (X0 : Ext M0 M) (gq : M.get q = some ⟨[i64 ((n : Nat) : Int), VE], 26, 2, 0, true⟩) (cc0 : (decide ((((i : Nat) : Int)) < (((n : Nat) : Int)))) = true) (cc1 : (qh == ql) = false) (hld0 : aload Try.prog 4 ⟨bb2, o2 + (((i : Nat) : Int) : Int).toNat * 1, none⟩ M0 = some (.bool qh)) (hld1 : aload Try.prog 4 ⟨bb, o + (((i : Nat) : Int) : Int).toNat * 1, none⟩ M0 = some (.bool ql)) : ∃ T1, Rd Try.prog [] (q4.loopAt 2) Try.f4.ntmps (fr [(7, (pt q 0)), (8, (sli bb o n c)), (11, (sli bb2 o2 n c2)), (15, (i64 (((i : Nat) : Int))))]) M .normal T1 M ∧ [7, 8, 11, 15].map T1.get = [some (pt q 0), some (sli bb o n c), some (sli bb2 o2 n c2), some (i64 (IntKind.wrap .i64 ((((i : Nat) : Int)) + (1 : Int))))] := by
  have hraw := r4d_raw q bb o c bb2 o2 c2 i n ql qh VE M  
  obtain ⟨T1, h1, h2⟩ := Rd.told noNumP mixedP (specs_none Try.prog) (fun _ _ => rfl) hraw (hk (lC dC3 gq rfl) (hk (bT cc0) (hk (q_inb (by omega) (by simp at cc0; omega)) (hk (q_ld (aload_ext X0 hld0)) (hk (q_inb (by omega) (by simp at cc0; omega)) (hk (q_ld (aload_ext X0 hld1)) (hk (bF cc1) hn)))))))
  exact ⟨T1, h1, h2⟩
theorem r4dx_raw (q bb o c bb2 o2 c2 i n : Nat) (VE : Value) (M : Mem)  : oR Try.prog [] 60 Try.f4 (q4.loopAt 2) [(7, (pt q 0)), (8, (sli bb o n c)), (11, (sli bb2 o2 n c2)), (15, (i64 (((i : Nat) : Int))))] M [ttL 5 (i64 (((n : Nat) : Int))), ttF 8] [] = some ((.exit 2), [], M, [qL 3 q 0 M (i64 (((n : Nat) : Int))), qF (decide ((((i : Nat) : Int)) < (((n : Nat) : Int))))]) := by kernel_rfl
theorem r4dx (q bb o c bb2 o2 c2 i n : Nat) (VE : Value) {M : Mem} (gq : M.get q = some ⟨[i64 ((n : Nat) : Int), VE], 26, 2, 0, true⟩) (cc0 : (decide ((((i : Nat) : Int)) < (((n : Nat) : Int)))) = false) : ∃ T1, Rd Try.prog [] (q4.loopAt 2) Try.f4.ntmps (fr [(7, (pt q 0)), (8, (sli bb o n c)), (11, (sli bb2 o2 n c2)), (15, (i64 (((i : Nat) : Int))))]) M (.exit 2) T1 M ∧ [].map T1.get = [] := by
  have hraw := r4dx_raw q bb o c bb2 o2 c2 i n VE M  
  obtain ⟨T1, h1, h2⟩ := Rd.told noNumP mixedP (specs_none Try.prog) (fun _ _ => rfl) hraw (hk (lC dC3 gq rfl) (hk (bF cc0) hn))
  exact ⟨T1, h1, h2⟩
theorem loop4d {q n c c2 : Nat} {al ah : Option Addr} {VE : Value} {L Hd : List Bool} {M : Mem} (hM : MemOk M) (gq : M.get q = some ⟨[i64 ((n : Nat) : Int), VE], 26, 2, 0, true⟩) (hs : pBools L (.slice al n c) M) (hh : pBools Hd (.slice ah n c2) M) (hn : 0 < n ∧ n ≤ 60) (hv : ∀ i, i < n → ∃ a b, Hd[i]? = some a ∧ L[i]? = some b ∧ (a == b) = false) :
    ∃ M', LoopR Try.prog [] (q4.loopAt 2) Try.f4.ntmps (fr [(7, pt q 0), (8, .slice al n c), (11, .slice ah n c2), (15, i64 ((0 : Nat) : Int))]) M (.exit 2) (fr []) M' ∧ Ext M M' ∧ MemOk M' := by
  have n1 := GRowsAt.len_eq hs
  have n2 := GRowsAt.len_eq hh
  obtain ⟨bb, o, rfl, _⟩ := form_pos hs (by omega)
  obtain ⟨bb2, o2, rfl, _⟩ := form_pos hh (by omega)
  obtain ⟨_, M', h1, h2, h3, _⟩ := LoopR.for (P := Try.prog) (GL := []) (b := q4.loopAt 2) (nt := Try.f4.ntmps) (id := 2) (σ := Unit) (n := n) (Inv := fun i _ M1 => Ext M M1 ∧ MemOk M1 ∧ M1.get q = some ⟨[i64 ((n : Nat) : Int), VE], 26, 2, 0, true⟩)
    (F := fun i _ => [(7, pt q 0), (8, sli bb o n c), (11, sli bb2 o2 n c2), (15, i64 ((i : Nat) : Int))]) (O := fun _ => [])
    (by
      rintro i _ M1 hi ⟨X1, hM1, hg⟩
      obtain ⟨a, b, e1, e2, e3⟩ := hv i hi
      have l1 := ld_one (P := Try.prog) (ty := 4) hs e2 rfl dC4
      have l2 := ld_one (P := Try.prog) (ty := 4) hh e1 rfl dC4
      obtain ⟨T1, h1, h2⟩ := r4d q bb o c bb2 o2 c2 i n b a VE (M := M1) X1 hg (decide_eq_true (by omega)) e3 l2 l1
      rw [wrap_succ (by omega)] at h2
      exact ⟨(), T1, M1, h1, h2, X1, hM1, hg⟩)
    (by
      rintro _ M1 ⟨X1, hM1, hg⟩
      exact r4dx q bb o c bb2 o2 c2 n n VE hg (decide_eq_false (by omega)))
    n 0 (by omega) (s := ()) (M := M) ⟨Ext.refl M, hM, gq⟩
  exact ⟨M', h1, h2, h3⟩
theorem rK4 : Try.f4.results = #[.tmp 6] := by kernel_rfl
theorem hS4_8_9_10_13_15 (B : Bd) : ∀ p ∈ ([(8, pick (Con Try.prog [] 8 Q8)), (9, pick (Con Try.prog [] 9 Q9)), (10, pick (Con Try.prog [] 10 Q10)), (13, pick (Con Try.prog [] 13 Q13)), (15, pick (Con Try.prog [] 15 Q15))] : List (FuncId × (List Value → Mem → Option (Value × Mem)))), SpecOk Try.prog [] B p.1 p.2 := (fun p hp => by simp only [List.mem_cons, List.not_mem_nil, or_false] at hp; rcases hp with rfl | rfl | rfl | rfl | rfl <;> first | exact Con.ok _)
theorem w4_raw (size md : Int) (ans : Option Addr) (cns : Nat) (ns : List Int) (M : Mem) (M3 : Mem) (a12 : Option Addr) (c13 : Nat) (M18 : Mem) (b27 : Nat) (M28 : Mem) (M37 : Mem) (a52 : Option Addr) (c53 : Nat) (M57 : Mem) (a69 : Option Addr) (c70 : Nat) (M74 : Mem) (rb95 : Nat) (M99 : Mem) (b112 : Nat) (M113 : Mem) (M125 : Mem) (M133 : Mem) : oT Try.prog [0, 2] 100 Try.f4 q4 [(i64 size), (.slice ans ns.length cns), (i64 md)] M [ttV 3 (.bool true) M3, ttV 14 (.agg ⟨[(i64 ((((nMk size) : Nat) : Int))), (.slice a12 (mkL size ns md).length c13)]⟩) M18, ttV 16 (pt b27 0) M28, ttS 18 M37, ttL 20 (.agg ⟨[(i64 ((((nMk size) : Nat) : Int))), (.slice a12 (mkL size ns md).length c13)]⟩), ttV 22 (.slice a52 (nMk size) c53) M57, ttL 24 (.agg ⟨[(i64 ((((nMk size) : Nat) : Int))), (.slice a12 (mkL size ns md).length c13)]⟩), ttV 26 (.slice a69 (orderL (nMk size) (mkL size ns md)).length c70) M74, ttT 34, ttL 38 (i64 ((((nMk size) : Nat) : Int))), ttF 41, ttL 43 (.agg ⟨[(i64 ((((nMk size) : Nat) : Int))), (.slice a12 (mkL size ns md).length c13)]⟩), ttV 45 (pt rb95 0) M99, ttL 51 (i64 ((((nMk size) : Nat) : Int))), ttV 53 (sli b112 0 ((nMk size)) ((nMk size) + 1)) M113, .blk 60 [7, 8, 9, 10, 11, 12, 13] .normal (fr [(7, (pt b27 0)), (8, (.slice a52 (nMk size) c53)), (11, (sli b112 0 ((nMk size)) ((nMk size) + 1)))]) M125, .blk 63 [7, 8, 11, 15] .normal (fr []) M133] 6 = some (.ret, some (.bool true), M133, [qC 8 [] M (.bool true) M3, qC 9 [(i64 size), (.slice ans ns.length cns), (i64 md)] M3 (.agg ⟨[(i64 ((((nMk size) : Nat) : Int))), (.slice a12 (mkL size ns md).length c13)]⟩) M18, .eq (aalloc Try.prog 26 M18) (1, .val (pt b27 0), M28), qS 26 b27 0 (.agg ⟨[(i64 ((((nMk size) : Nat) : Int))), (.slice a12 (mkL size ns md).length c13)]⟩) M28 M37, qL 26 b27 0 (Mem.mk M37.blks M37.next M37.hide []) (.agg ⟨[(i64 ((((nMk size) : Nat) : Int))), (.slice a12 (mkL size ns md).length c13)]⟩), qC 10 [(.agg ⟨[(i64 ((((nMk size) : Nat) : Int))), (.slice a12 (mkL size ns md).length c13)]⟩)] (Mem.mk M37.blks M37.next M37.hide []) (.slice a52 (nMk size) c53) M57, qL 26 b27 0 (Mem.mk M57.blks M57.next (hides 0 [⟨1, 1, M37.next, M57.next⟩, ⟨0, 1, M37.next, M37.next⟩] ++ M37.hide) M57.log) (.agg ⟨[(i64 ((((nMk size) : Nat) : Int))), (.slice a12 (mkL size ns md).length c13)]⟩), qT (Nat.blt b27 M37.next), qC 13 [(.agg ⟨[(i64 ((((nMk size) : Nat) : Int))), (.slice a12 (mkL size ns md).length c13)]⟩)] (Mem.mk M57.blks M57.next M37.hide M57.log) (.slice a69 (orderL (nMk size) (mkL size ns md)).length c70) M74, qT (apartN [b27] M74.log), .ln a52 (nMk size) c53, qL 3 b27 0 (Mem.mk M74.blks M74.next M37.hide (M74.log ++ M37.log)) (i64 ((((nMk size) : Nat) : Int))), qF (!(((((nMk size) : Nat) : Int)) == ((((nMk size) : Nat) : Int)))), qL 26 b27 0 (Mem.mk M74.blks M74.next M37.hide (M74.log ++ M37.log)) (.agg ⟨[(i64 ((((nMk size) : Nat) : Int))), (.slice a12 (mkL size ns md).length c13)]⟩), qC 15 [(.agg ⟨[(i64 ((((nMk size) : Nat) : Int))), (.slice a12 (mkL size ns md).length c13)]⟩)] (Mem.mk M74.blks M74.next M37.hide (M74.log ++ M37.log)) (pt rb95 0) M99, qL 3 b27 0 M99 (i64 ((((nMk size) : Nat) : Int))), .eq (amakeSlice Try.prog 28 (i64 ((((nMk size) : Nat) : Int))) (i64 ((((nMk size) : Nat) : Int))) M99) (1, .val (sli b112 0 ((nMk size)) ((nMk size) + 1)), M113), .blk 0 (.loop (q4.loopAt 0)) Try.f4.ntmps [7, 8, 9, 10, 11, 12, 13] [some (pt b27 0), some (.slice a52 (nMk size) c53), some (.slice a69 (orderL (nMk size) (mkL size ns md)).length c70), some (pt rb95 0), some (sli b112 0 ((nMk size)) ((nMk size) + 1)), some (i64 0), some (i64 0)] M113 .normal (fr [(7, (pt b27 0)), (8, (.slice a52 (nMk size) c53)), (11, (sli b112 0 ((nMk size)) ((nMk size) + 1)))]) M125, .blk 2 (.loop (q4.loopAt 2)) Try.f4.ntmps [7, 8, 11, 15] [some (pt b27 0), some (.slice a52 (nMk size) c53), some (sli b112 0 ((nMk size)) ((nMk size) + 1)), some (i64 0)] M125 .normal (fr []) M133]) := by kernel_rfl
theorem w4 (size md : Int) (ans : Option Addr) (cns : Nat) (ns : List Int) {M : Mem} (hM : MemOk M) (hns : pInts ns (.slice ans ns.length cns) M) : ∃ v_ M', Ev Try.prog [] 4 [(i64 size), (.slice ans ns.length cns), (i64 md)] M v_ M' ∧ Ext M M' ∧ MemOk M' ∧ v_ = .bool true := by
  obtain ⟨w1, N2, M3, p4, l5, e6, E7, hM8, F9⟩ := call_fc (x := ()) hM con8 (rfl)
  have nx10 := E7.next
  have ew1 : w1 = (.bool true) := F9
  subst ew1
  have X11 := (Ext.refl M).trans E7
  obtain ⟨w16, N17, M18, p19, l20, e21, E22, hM23, F24⟩ := call_fc (x := (size, ns, md)) hM8 con9 (⟨_, _, _, rfl, rfl, AP.Ext (R := pInts) hns X11, rfl⟩)
  have nx25 := E22.next
  obtain ⟨L15, ew16, G14⟩ : pNetN ((nMk size), (mkL size ns md)) w16 (hidx [(0, M3.next)] M18) := hx_of F24
  simp only at ew16 G14
  obtain ⟨a12, c13, eL15⟩ := GRowsAt.form G14
  subst eL15
  subst ew16
  have X26 := X11.trans E22
  obtain ⟨b27, M28, eb29, em30, g31, E32, hM33⟩ := new_t hM23 ⟨[(i64 0), sln], 26, 2, 0, true⟩
  have nb27 : M.next ≤ b27 := by rw [← eb29]; exact X26.next
  have F34 := hx_new (R := pEdges) G14 eb29 E32
  have nx35 := E32.next
  have X36 := X26.trans E32
  obtain ⟨M37, q38, g39, kp40, X41, hM42, nx43⟩ := store_t (o := 0) (v := (.agg ⟨[(i64 ((((nMk size) : Nat) : Int))), (.slice a12 (mkL size ns md).length c13)]⟩)) (new := [(i64 ((((nMk size) : Nat) : Int))), (.slice a12 (mkL size ns md).length c13)]) X36 nb27 hM33 dS26 g31 rfl rfl (Nat.zero_le _) (Nat.le_of_ble_eq_true rfl) rfl
  replace g39 : M37.get b27 = some ⟨[(i64 ((((nMk size) : Nat) : Int))), (.slice a12 (mkL size ns md).length c13)], 26, 2, 0, true⟩ := g39
  have F44 := hx_keep (R := pEdges) F34 (fun id h _ => kp40 id h) (by intro id hh; simp only [hidden_con] at hh; omega)
  obtain ⟨R45, eR46⟩ : ∃ m : Mem, m = Mem.mk M37.blks M37.next M37.hide [] := ⟨_, rfl⟩
  have X47 : Ext (Mem.mk M.blks M.next M.hide []) R45 := by rw [eR46]; exact Ext.aside (X41)
  have lg48 : R45.log = [] := by rw [eR46]
  have nxR45 : R45.next = M37.next := by rw [eR46]
  have hM49 : MemOk R45 := by rw [eR46]; exact MemOk.log hM42
  have ltb27M37 : b27 < M37.next := by have h := Mem.lt_of_get g39; exact h
  have g50 : R45.get b27 = some ⟨[(i64 ((((nMk size) : Nat) : Int))), (.slice a12 (mkL size ns md).length c13)], 26, 2, 0, true⟩ := by rw [eR46]; exact g39
  have F51 := hx_still (R := pEdges) (M' := R45) F44 (fun id b h => by rw [eR46]; exact h)
  have ltb27M57 := Mem.lt_of_get g50
  obtain ⟨w55, N56, M57, p58, l59, e60, E61, hM62, F63⟩ := call_fc (x := ((nMk size), (mkL size ns md))) hM49 con10 (⟨⟨_, rfl, _, rfl, hx_out (R := pEdges) F51⟩, mk_chk _ _ _⟩)
  have nx64 := E61.next
  have F65 := hx_ext (R := pEdges) F51 E61
  have g66 := E61.old g50
  have G54 : pBools (linksL (adjM (nMk size) (mkL size ns md)) (nMk size)) w55 (hidx [(0, R45.next)] M57) := hx_of F63
  obtain ⟨a52, c53, ew55⟩ := GRowsAt.form G54
  rw [linksL_len] at ew55
  subst ew55
  have lna52 := GRowsAt.ln G54
  have lg67 : M57.log = [] := by rw [← e60]; exact lg48
  have X68 := X47.trans E61
  have ltb27M74 := Mem.lt_of_get g66
  obtain ⟨w72, N73, M74, p75, l76, e77, E78, hM79, F80⟩ := call_fc (x := ((nMk size), (mkL size ns md))) hM62 con13 (⟨⟨_, rfl, _, rfl, hx_out (R := pEdges) F65⟩, mk_chk _ _ _⟩)
  have nx81 := E78.next
  have F82 := hx_ext (R := pEdges) F65 E78
  have F83 := hx_ext (R := pBools) G54 E78
  have g84 := E78.old g66
  have G71 : pInts (orderL (nMk size) (mkL size ns md)) w72 (hidx [(0, M57.next)] M74) := hx_of F80
  obtain ⟨a69, c70, ew72⟩ := GRowsAt.form G71
  subst ew72
  have lg85 : M74.log = [] := by rw [← e77]; exact lg67
  have X86 := X68.trans E78
  obtain ⟨M87, ef88⟩ : ∃ m : Mem, m = (Mem.mk M74.blks M74.next M74.hide (M74.log ++ M37.log)) := ⟨_, rfl⟩
  have X89 : Ext M M87 := by rw [ef88]; exact Ext.join (X41) (X86)
  have hM90 : MemOk M87 := by rw [ef88]; exact hM79
  have g91 : M87.get b27 = some ⟨[(i64 ((((nMk size) : Nat) : Int))), (.slice a12 (mkL size ns md).length c13)], 26, 2, 0, true⟩ := by rw [ef88]; exact g84
  have F92 := hx_still (R := pEdges) (M' := M87) F82 (fun id b h => by rw [ef88]; exact h)
  have F93 := hx_still (R := pBools) (M' := M87) F83 (fun id b h => by rw [ef88]; exact h)
  have F94 := hx_still (R := pInts) (M' := M87) G71 (fun id b h => by rw [ef88]; exact h)
  have ltb27M99 := Mem.lt_of_get g91
  obtain ⟨w97, N98, M99, p100, l101, e102, E103, hM104, F105⟩ := call_fc (x := ((nMk size), (mkL size ns md))) hM90 con15 (⟨_, rfl, _, rfl, hx_out (R := pEdges) F92⟩)
  have nx106 := E103.next
  have F108 := hx_ext (R := pBools) F93 E103
  have F109 := hx_ext (R := pInts) F94 E103
  have g110 := E103.old g91
  have G96 : pRefA 53 ((nMk size), (mkL size ns md)) w97 M99 := F105
  obtain ⟨rb95, _, ew97, _⟩ := id G96
  subst ew97
  have X111 := X89.trans E103
  obtain ⟨b112, M113, eb114, em115, g116, E117, hM118⟩ := mks_t (P := Try.prog) (t := 28) (elem := 4) (z := (.bool false)) (n := ((nMk size))) hM104 (by kernel_rfl) (by kernel_rfl) (by have := nMk_range size; omega)
  have nb112 : M.next ≤ b112 := by rw [← eb114]; exact X111.next
  have db27b112 : b27 ≠ b112 := by have := Mem.lt_of_get g110; omega
  have g123 := E117.old g110
  obtain ⟨M125, hL126, X127, hM128, gq129, gh130⟩ := loop4 hM118 E117 (hx_out (R := pBools) F108) (hx_out (R := pInts) F109) G96 (chkN_spec (mk_chk size ns md)).2.2.1 (by have := nMk_range size; omega) g123 (Nat.le_of_eq eb114) g116 db27b112 (ord_ok (mk_chk size ns md)) (by rw [order_eq (mk_chk size ns md)]; exact ord_pw _ _) (order_len (mk_chk size ns md))
  have F132 := hx_ext (R := pBools) F108 X127
  have X131 := (X111).trans X127
  obtain ⟨M133, hL134, E135, hM136⟩ := loop4d hM128 gq129 (hx_out (R := pBools) F132) (GRowsAt.of_blk' (w := 1) (g := bRow) gh130 (memT_len _ _) (flat1 _).symm (fun _ _ => rfl) (by rw [memT_len]; have := nMk_range size; omega)) (by have := nMk_range size; omega) (fun i hi => ord_iff (mk_chk size ns md) hi)
  have nx137 := E135.next
  have X141 := X131.trans E135
  have hraw := w4_raw size md ans cns ns M  M3 a12 c13 M18 b27 M28 M37 a52 c53 M57 a69 c70 M74 rb95 M99 b112 M113 M125 M133
  have rw0 : Mem.mk M37.blks M37.next M37.hide [] = R45 := eR46.symm
  have rw1 : Mem.mk M57.blks M57.next M37.hide M57.log = M57 := by rw [(show M37.hide = M57.hide from ((X41).hide.trans (X68).hide.symm))]
  have rw2 : Mem.mk M57.blks M57.next (hides 0 [⟨1, 1, M37.next, M57.next⟩, ⟨0, 1, M37.next, M37.next⟩] ++ M37.hide) M57.log = hidx (hides 0 [⟨1, 1, M37.next, M57.next⟩, ⟨0, 1, M37.next, M37.next⟩]) M57 := by rw [(show M37.hide = M57.hide from ((X41).hide.trans (X68).hide.symm))]; rfl
  have rw3 : Mem.mk M74.blks M74.next M37.hide M74.log = M74 := by rw [(show M37.hide = M74.hide from ((X41).hide.trans (X86).hide.symm))]
  have rw4 : (Mem.mk M74.blks M74.next M37.hide (M74.log ++ M37.log)) = (Mem.mk M74.blks M74.next M74.hide (M74.log ++ M37.log)) := by rw [(show M37.hide = M74.hide from ((X41).hide.trans (X86).hide.symm))]
  have rw5 : (Mem.mk M74.blks M74.next M74.hide (M74.log ++ M37.log)) = M87 := ef88.symm
  try rw [rw0] at hraw
  try rw [rw1] at hraw
  try rw [rw2] at hraw
  try rw [rw3] at hraw
  try rw [rw4] at hraw
  try rw [rw5] at hraw
  exact ⟨(.bool true), M133, Ev.told_tmp noNumP mixedP Try.func4 q4_ok (by kernel_rfl) rK4 (fun B => specsB_ok (hS4_8_9_10_13_15 B) (k := [(0, bone (.loop (q4.loopAt 0)) Try.f4.ntmps [7, 8, 9, 10, 11, 12, 13] [some (pt b27 0), some (.slice a52 (nMk size) c53), some (.slice a69 (orderL (nMk size) (mkL size ns md)).length c70), some (pt rb95 0), some (sli b112 0 ((nMk size)) ((nMk size) + 1)), some (i64 0), some (i64 0)] M113 .normal (fr [(7, (pt b27 0)), (8, (.slice a52 (nMk size) c53)), (11, (sli b112 0 ((nMk size)) ((nMk size) + 1)))]) M125), (2, bone (.loop (q4.loopAt 2)) Try.f4.ntmps [7, 8, 11, 15] [some (pt b27 0), some (.slice a52 (nMk size) c53), some (sli b112 0 ((nMk size)) ((nMk size) + 1)), some (i64 0)] M125 .normal (fr []) M133)]) (fun p hp => by simp only [List.mem_cons, List.not_mem_nil, or_false] at hp; rcases hp with rfl | rfl <;> first | exact BlkOk.loop noNumP mixedP hL126 | exact BlkOk.loop noNumP mixedP hL134)) (fun _ h => blksF_two h) hraw (hk (q_call rfl p4 l5 e6) (hk (q_call rfl p19 l20 e21) (hk (q_eq (by rw [← eb29, ← em30]; kernel_rfl) Nat.one_ne_zero) (hk (q_st q38) (hk (lA ⟨dA26, dS26⟩ g50 rfl) (hk (q_call rfl p58 l59 e60) (hk (lA ⟨dA26, dS26⟩ (hidx_get.2 ⟨hides_low (by simp; omega), g66⟩) rfl) (hk (q_lt ltb27M37) (hk (q_call rfl p75 l76 e77) (hk (q_apart (by rw [lg85]; simp <;> omega)) (hk (lN lna52) (hk (lC dC3 g91 rfl) (hk (bF (by first | simp_all | (simp; omega))) (hk (lA ⟨dA26, dS26⟩ g91 rfl) (hk (q_call rfl p100 l101 e102) (hk (lC dC3 g110 rfl) (hk (q_eq em115 Nat.one_ne_zero) (hk (q_blk rfl) (hk (q_blk rfl) hn))))))))))))))))))), X141, hM136, rfl⟩
end Go.Proofs.Ytfeabmmgmbddnaa
