/-
  P101, NetChecks: for every network, every number, every row of numbers that is handed in the law answers true, and its arguments read as they did. No condition but the row's own.
-/
import Derived.Test.YtlmifmodnkhidaaDoorW2
import Derived.Test.YtlmifmodnkhidaaDoorAmKit
open Go Go.Am Go.Proofs
namespace Go.Proofs.YtlmifmodnkhidaaDoor
set_option maxRecDepth 10000

structure E where
  f : Int
  t : Int
  m : Int
  c : Int
def ecOf : List E → List Value
  | [] => []
  | e :: l => i64 e.f :: i64 e.t :: i64 e.m :: i64 e.c :: ecOf l
def ints (l : List Int) : List Value := l.map i64

theorem ints_len (l : List Int) : (ints l).length = l.length := by simp [ints]
theorem ints_flat : ∀ (l : List Int), flatL (ints l) = true
  | [] => rfl
  | _ :: l => by simp only [ints, List.map_cons, flatL, flat, Bool.true_and]; exact ints_flat l
theorem ints_get {l : List Int} {i : Nat} {z : Int} (h : l[i]? = some z) : (ints l)[i]? = some (i64 z) := by simp [ints, h]
theorem ecOf_len : ∀ (l : List E), (ecOf l).length = l.length * 4
  | [] => rfl
  | _ :: l => by simp only [ecOf, List.length_cons, ecOf_len l]; omega
theorem ecOf_flat : ∀ (l : List E), flatL (ecOf l) = true
  | [] => rfl
  | _ :: l => by simp only [ecOf, flatL, flat, Bool.true_and]; exact ecOf_flat l
theorem ecOf_drop : ∀ {l : List E} {k : Nat} {e : E}, l[k]? = some e → ∃ r, (ecOf l).drop (k * 4) = i64 e.f :: i64 e.t :: i64 e.m :: i64 e.c :: r
  | [], _, _, h => by simp at h
  | e :: l, 0, _, h => by simp at h; subst h; exact ⟨ecOf l, rfl⟩
  | e :: l, k + 1, _, h => by
    obtain ⟨r, hr⟩ := ecOf_drop (l := l) (k := k) (by simpa using h)
    refine ⟨r, ?_⟩
    rw [show (k + 1) * 4 = k * 4 + 1 + 1 + 1 + 1 by omega]
    simpa [ecOf] using hr
theorem ecOf_get {l : List E} {k : Nat} {e : E} (h : l[k]? = some e) : (ecOf l)[k * 4]? = some (i64 e.f) := by
  obtain ⟨r, hr⟩ := ecOf_drop h
  have : ((ecOf l).drop (k * 4))[0]? = some (i64 e.f) := by rw [hr]; rfl
  simpa using this

theorem ld3 (off : Nat) (b : ABlk) : aloadB Tryd.prog 3 off (some b) = b.cs[off]? := by kernel_rfl
theorem ld31 (off : Nat) (b : ABlk) : aloadB Tryd.prog 31 off (some b) = match takeN 4 (b.cs.drop off) with | some l => some (.agg l.toArray) | none => none := by kernel_rfl

/- The walk, by itself. -/
def go (es : List E) : List Int → Int → Int → List Int → Option (Int × Int × List Int)
  | [], a, c, ws => some (a, c, ws)
  | i :: l, a, c, ws => if 0 ≤ i ∧ i < es.length then match es[i.toNat]? with
      | some e => if e.f = a then go es l e.t (IntKind.wrap .i64 (c + e.c)) (ws ++ [e.m]) else none
      | none => none
    else none

def wordV (ws : List Int) : Value := match ws with | [] => .slice none 0 0 | _ :: _ => sl 3 ws.length
def wordB (ws : List Int) : List (Nat × ABlk) := match ws with | [] => [] | _ :: _ => [(3, own (ints ws) 3 1)]

theorem info3 : ∃ e, Tryd.prog.info? 3 = some e ∧ e.size = 1 ∧ e.bytes ≤ 1024 ∧ zeroOk e = true := ⟨_, rfl, by kernel_rfl, of_decide_eq_true (by kernel_rfl), by kernel_rfl⟩
theorem ap25 {id nw n : Nat} {x : Value} {ws : List Int} {new : List Value} (hx : lenV x = some n) (hn : n ≠ 0) (hl : ws.length = nw) (hroom : nw + n ≤ 2 ^ 30) (hnew : new.all isCell = true) (hlen : new.length = n) (M : Mem) (r : Nat × AR × Mem)
    (h : appIn Tryd.prog [25, 25] (sl id nw) x M (ints ws) = some (own (ints ws) 3 1, new, r)) : aappend Tryd.prog [25, 25] (sl id nw) x M = some r := by
  obtain ⟨e, h1, h2, h3, h4⟩ := info3
  exact ap_ok (P := Tryd.prog) (sT := 25) (xT := 25) (elem := 3) (xd := .slice 3) (e := e) Tryd.underlying25 Tryd.underlying25 rfl h1 hx hn rfl (by rw [h2]; exact takeN_all (by simp [ints_len, hl])) (roomy_ok (by omega) h3 h4 hroom) hnew (by rw [h2, hlen]; simp) h2.symm rfl rfl rfl M r h

abbrev D24 := Nat × Int × Int × List Int
def S24 (N tt : Int) (e0 e1 : Nat) (es : List E) (ls : List Int) (d : D24) : St :=
  I24 N tt es.length ls.length e0 e1 (ecOf es) (ints ls) d.2.1 d.2.2.1 (d.1 : Int) (wordV d.2.2.2) (wordB d.2.2.2)
def end24 (N tt : Int) (e0 e1 : Nat) (es : List E) (ls : List Int) : Option (Int × Int × List Int) → AExit × St
  | some (a, c, ws) => (.exit 0, fin24 N tt es.length e0 e1 (ecOf es) (ints ls) a c (wordV ws) (wordB ws))
  | none => (.ret, bad24 N es.length e0 e1 (ecOf es) (ints ls))

theorem still_mem {mv : Moves} {l : List (List Value)} (h : ∀ x ∈ l, flatL x = true ∨ renL mv x = some x) : ∀ x ∈ l, renL mv x = some x := fun x hx => (h x hx).elim (renL_flat mv x) id

theorem q1_ok {SP : Specs} {iv : Int} {nl : Nat} {b : Bool} (h : decide (iv < (nl : Int)) = b) : (q1 iv nl b).holds Tryd.prog SP noDoors [] := by subst h; rfl
theorem q2_ok {SP : Specs} {i : Nat} {li : Int} {ls : List Int} {e1 : Nat} (h : ls[i]? = some li) : ∀ p ∈ q2 (i : Int) li ls.length e1 (ints ls), p.holds Tryd.prog SP noDoors [] := by
  have hlt : i < ls.length := by
    by_cases hh : i < ls.length
    · exact hh
    · rw [List.getElem?_eq_none (by omega)] at h; cases h
  intro p hp
  simp only [q2, List.mem_cons, List.not_mem_nil, or_false] at hp
  rcases hp with rfl | rfl
  · simp only [QV.holds, inB, Bool.and_eq_true, decide_eq_true_eq]; omega
  · exact ⟨_, rfl, by rw [ld3]; simpa using ints_get h⟩
theorem q4_ok {SP : Specs} {li : Int} {es : List E} {e : E} {e0 : Nat} (h0 : 0 ≤ li) (h1 : li < es.length) (h : es[li.toNat]? = some e) : ∀ p ∈ q4 li e.f es.length e0 (ecOf es), p.holds Tryd.prog SP noDoors [] := by
  intro p hp
  simp only [q4, List.mem_cons, List.not_mem_nil, or_false] at hp
  rcases hp with rfl | rfl
  · simp only [QV.holds, inB, Bool.and_eq_true, decide_eq_true_eq]; omega
  · exact ⟨_, rfl, by rw [ld3]; simpa using ecOf_get h⟩
theorem q6_ok {SP : Specs} {li : Int} {es : List E} {e : E} {e0 : Nat} (h0 : 0 ≤ li) (h1 : li < es.length) (h : es[li.toNat]? = some e) : ∀ p ∈ q6 li e.f e.t e.m e.c es.length e0 (ecOf es), p.holds Tryd.prog SP noDoors [] := by
  intro p hp
  simp only [q6, List.mem_cons, List.not_mem_nil, or_false] at hp
  rcases hp with rfl | rfl
  · simp only [QV.holds, inB, Bool.and_eq_true, decide_eq_true_eq]; omega
  · obtain ⟨r, hr⟩ := ecOf_drop h
    refine ⟨_, rfl, ?_⟩
    rw [ld31, Nat.zero_add, hr]
    rfl
theorem q3_ok {li : Int} {ne : Nat} {b : Bool} (h : (decide (0 ≤ li) && decide (li < (ne : Int))) = b) : (q3 li ne b).holds Tryd.prog SP24 noDoors [] :=
  fun M _ => call38 rfl li ne b h M
theorem q5_ok {SP : Specs} {f at' : Int} {b : Bool} (h : (f != at') = b) : (q5 at' f b).holds Tryd.prog SP noDoors [] := by subst h; rfl
theorem specs24 (B : Nat) : SpecsOk Tryd.prog [] B SP24 := specs_ok fun p hp => by
  simp only [List.mem_singleton] at hp
  subst hp
  exact ok38 B

theorem box_still (mv : Moves) (N : Int) (ne : Nat) (h : toTgt mv 0 = some 0) : renL mv (boxC N ne) = some (boxC N ne) := by
  simp [boxC, renL, renV, leaf, sl, renAddr, h]

theorem step24 (N tt : Int) (e0 e1 : Nat) (es : List E) (ls : List Int) (hls : ls.length ≤ 2 ^ 30 - 1) (R : Option (Int × Int × List Int)) (B : Nat) (d : D24) (hd : d.1 ≤ ls.length ∧ go es (ls.drop d.1) d.2.1 d.2.2.1 d.2.2.2 = R ∧ d.2.2.2.length = d.1) :
    ∃ SP n s1, SpecsOk Tryd.prog [] B SP ∧ s1.M.next ≤ 10 ∧
      ((∃ nx mv keep d', aexec Tryd.prog [] SP n loop24 (S24 N tt e0 e1 es ls d) = some (.normal, s1) ∧ View 3 nx mv keep [] [] s1 (S24 N tt e0 e1 es ls d') ∧ (d'.1 ≤ ls.length ∧ go es (ls.drop d'.1) d'.2.1 d'.2.2.1 d'.2.2.2 = R ∧ d'.2.2.2.length = d'.1) ∧ ls.length - d'.1 < ls.length - d.1) ∨
        (∃ mv keep, aexec Tryd.prog [] SP n loop24 (S24 N tt e0 e1 es ls d) = some ((end24 N tt e0 e1 es ls R).1, s1) ∧ View 3 10 mv keep [] [] s1 (end24 N tt e0 e1 es ls R).2)) := by
  obtain ⟨i, a, c, ws⟩ := d
  obtain ⟨h1, h2, h3⟩ := hd
  simp only at h1 h2 h3
  have hwv : (wordV ws = .slice none 0 0 ∧ wordB ws = []) ∨ (wordV ws = sl 3 ws.length ∧ wordB ws = [(3, own (ints ws) 3 1)]) := by
    cases ws with
    | nil => exact .inl ⟨rfl, rfl⟩
    | cons x l => exact .inr ⟨rfl, rfl⟩
  have fl3 : ∀ mv : Moves, toTgt mv 0 = some 0 → ∀ l ∈ [ecOf es, ints ls, boxC N es.length], renL mv l = some l := fun mv hmv l hl => by
    simp only [List.mem_cons, List.not_mem_nil, or_false] at hl
    rcases hl with rfl | rfl | rfl
    · exact renL_flat _ _ (ecOf_flat es)
    · exact renL_flat _ _ (ints_flat ls)
    · exact box_still _ _ _ hmv
  have fl4 : ∀ (mv : Moves) (x : List Int), toTgt mv 0 = some 0 → ∀ l ∈ [ecOf es, ints ls, boxC N es.length, ints x], renL mv l = some l := fun mv x hmv l hl => by
    simp only [List.mem_cons, List.not_mem_nil, or_false] at hl
    rcases hl with rfl | rfl | rfl | rfl
    · exact renL_flat _ _ (ecOf_flat es)
    · exact renL_flat _ _ (ints_flat ls)
    · exact box_still _ _ _ hmv
    · exact renL_flat _ _ (ints_flat x)
  by_cases hi : i < ls.length
  · obtain ⟨li, hli⟩ : ∃ li, ls[i]? = some li := ⟨ls[i], List.getElem?_eq_getElem hi⟩
    have hdrop : ls.drop i = li :: ls.drop (i + 1) := by
      rw [List.drop_eq_getElem_cons hi]
      rw [List.getElem?_eq_getElem hi] at hli
      cases hli; rfl
    rw [hdrop] at h2
    unfold go at h2
    have hq1 : ∀ p ∈ [q1 (i : Int) ls.length true], p.holds Tryd.prog SP24 noDoors [] := fun p hp => by
      rw [List.mem_singleton.1 hp]; exact q1_ok (by simp; omega)
    by_cases hr : 0 ≤ li ∧ li < es.length
    · rw [if_pos hr] at h2
      have hq3 : ∀ p ∈ [q3 li es.length true], p.holds Tryd.prog SP24 noDoors [] := fun p hp => by
        rw [List.mem_singleton.1 hp]; exact q3_ok (by simp [hr.1, hr.2])
      obtain ⟨e, he⟩ : ∃ e, es[li.toNat]? = some e := ⟨es[li.toNat]'(by omega), List.getElem?_eq_getElem (by omega)⟩
      rw [he] at h2
      simp only at h2
      by_cases hf : e.f = a
      · rw [if_pos hf] at h2
        have hq5 : ∀ p ∈ [q5 a e.f false], p.holds Tryd.prog SP24 noDoors [] := fun p hp => by
          rw [List.mem_singleton.1 hp]; exact q5_ok (by simp [hf])
        have hiv : IntKind.wrap .i64 ((i : Int) + 1) = ((i + 1 : Nat) : Int) := by rw [IntWalk.i64_in _ (by omega)]; omega
        have hw' : wordV (ws ++ [e.m]) = sl 3 (ws.length + 1) ∧ wordB (ws ++ [e.m]) = [(3, own (ints ws ++ [i64 e.m]) 3 1)] := by
          cases ws <;> simp [wordV, wordB, ints]
        rcases hwv with ⟨v1, v2⟩ | ⟨v1, v2⟩
        · have hnil : ws = [] := by cases ws with
            | nil => rfl
            | cons x l => simp [wordV, sl] at v1
          subst hnil
          have hs := stepA N tt a c i li e.f e.t e.m e.c es.length ls.length e0 e1 (ecOf es) (ints ls)
          unfold rnd24 at hs
          obtain ⟨s1, k1, k2, k3⟩ := round_of (doors := noDoors) (ids := []) hs (by
            intro p hp
            simp only [List.mem_append] at hp
            rcases hp with ((((hp | hp) | hp) | hp) | hp) | hp
            · exact hq1 p hp
            · exact q2_ok hli p hp
            · exact hq3 p hp
            · exact q4_ok hr.1 hr.2 he p hp
            · exact hq5 p hp
            · exact q6_ok hr.1 hr.2 he p hp) (fl4 _ [e.m] rfl)
          rw [hiv] at k3
          exact ⟨SP24, 60, s1, specs24 B, k1, .inl ⟨4, _, keep24, (i + 1, e.t, IntKind.wrap .i64 (c + e.c), [e.m]), k2, k3, ⟨by simp only; omega, h2, by simp at h3; simp; omega⟩, by simp only; omega⟩⟩
        · have hs := stepB N tt a c i li e.f e.t e.m e.c es.length ls.length ws.length e0 e1 (ecOf es) (ints ls) (ints ws)
          unfold rnd24 at hs
          obtain ⟨s1, k1, k2, k3⟩ := round_of (doors := noDoors) (ids := []) hs (by
            intro p hp
            simp only [List.mem_append] at hp
            rcases hp with (((((hp | hp) | hp) | hp) | hp) | hp) | hp
            · exact hq1 p hp
            · exact q2_ok hli p hp
            · exact hq3 p hp
            · exact q4_ok hr.1 hr.2 he p hp
            · exact hq5 p hp
            · exact q6_ok hr.1 hr.2 he p hp
            · rw [List.mem_singleton.1 hp]
              exact fun M r hM => ap25 (n := 1) rfl (by decide) rfl (by omega) rfl rfl M r hM) (by
            have := fl4 (mv24 [(3, 6, true)]) (ws ++ [e.m]) rfl
            simpa [ints] using this)
          rw [hiv] at k3
          rw [← v1, ← v2] at k2
          rw [← hw'.1, ← hw'.2] at k3
          exact ⟨SP24, 60, s1, specs24 B, k1, .inl ⟨4, _, keep24, (i + 1, e.t, IntKind.wrap .i64 (c + e.c), ws ++ [e.m]), k2, k3, ⟨by simp only; omega, h2, by simp; omega⟩, by simp only; omega⟩⟩
      · rw [if_neg hf] at h2
        subst h2
        have hs := stepBad2 N tt a c i li e.f es.length ls.length ws.length e0 e1 (ecOf es) (ints ls) (ints ws) (wordV ws) (wordB ws) hwv
        unfold rnd24 at hs
        obtain ⟨s1, k1, k2, k3⟩ := round_of (doors := noDoors) (ids := []) hs (by
            intro p hp
            simp only [List.mem_append] at hp
            rcases hp with (((hp | hp) | hp) | hp) | hp
            · exact hq1 p hp
            · exact q2_ok hli p hp
            · exact hq3 p hp
            · exact q4_ok hr.1 hr.2 he p hp
            · rw [List.mem_singleton.1 hp]; exact q5_ok (by simp [hf])) (fl3 _ rfl)
        exact ⟨SP24, 60, s1, specs24 B, k1, .inr ⟨_, _, k2, k3⟩⟩
    · rw [if_neg hr] at h2
      subst h2
      have hs := stepBad1 N tt a c i li es.length ls.length ws.length e0 e1 (ecOf es) (ints ls) (ints ws) (wordV ws) (wordB ws) hwv
      unfold rnd24 at hs
      obtain ⟨s1, k1, k2, k3⟩ := round_of (doors := noDoors) (ids := []) hs (by
          intro p hp
          simp only [List.mem_append] at hp
          rcases hp with (hp | hp) | hp
          · exact hq1 p hp
          · exact q2_ok hli p hp
          · rw [List.mem_singleton.1 hp]
            refine q3_ok ?_
            rw [Bool.and_eq_false_iff]
            simp only [decide_eq_false_iff_not]
            omega) (fl3 _ rfl)
      exact ⟨SP24, 60, s1, specs24 B, k1, .inr ⟨_, _, k2, k3⟩⟩
  · have hd0 : ls.drop i = [] := List.drop_eq_nil_of_le (by omega)
    rw [hd0] at h2
    unfold go at h2
    subst h2
    have hq1 : ∀ p ∈ [q1 (i : Int) ls.length false], p.holds Tryd.prog SP24 noDoors [] := fun p hp => by
      rw [List.mem_singleton.1 hp]; exact q1_ok (by simp; omega)
    rcases hwv with ⟨v1, v2⟩ | ⟨v1, v2⟩
    · have hs := stepEndA N tt a c i es.length ls.length e0 e1 (ecOf es) (ints ls)
      unfold rnd24 at hs
      obtain ⟨s1, k1, k2, k3⟩ := round_of (doors := noDoors) (ids := []) hs hq1 (fl3 _ rfl)
      rw [← v1, ← v2] at k2 k3
      exact ⟨SP24, 60, s1, specs24 B, k1, .inr ⟨_, _, k2, k3⟩⟩
    · have hs := stepEndB N tt a c i es.length ls.length ws.length e0 e1 (ecOf es) (ints ls) (ints ws)
      unfold rnd24 at hs
      obtain ⟨s1, k1, k2, k3⟩ := round_of (doors := noDoors) (ids := []) hs hq1 (fl4 _ ws rfl)
      rw [← v1, ← v2] at k2 k3
      exact ⟨SP24, 60, s1, specs24 B, k1, .inr ⟨_, _, k2, k3⟩⟩

end Go.Proofs.YtlmifmodnkhidaaDoor
