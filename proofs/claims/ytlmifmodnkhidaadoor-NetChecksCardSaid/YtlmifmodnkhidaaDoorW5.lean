/-
  P101, NetChecks: for every network, every number, every row of numbers that is handed in the law answers true, and its arguments read as they did. No condition but the row's own.
-/
import Derived.Test.YtlmifmodnkhidaaDoorW4
import Derived.Test.YtlmifmodnkhidaaDoorAmCall
open Go Go.Am Go.Proofs
namespace Go.Proofs.YtlmifmodnkhidaaDoor
set_option maxRecDepth 10000

def walkR (N : Int) (es : List E) (fr tt : Int) (ls : List Int) : Option (Int × List Int) :=
  if (0 ≤ fr ∧ fr < N) ∧ 0 ≤ tt ∧ tt < N then match go es ls fr 0 [] with
    | some (a, c, ws) => if a = tt then some (c, ws) else none
    | none => none
  else none
def walkV (id : Nat) : Option (Int × List Int) → Value
  | none => noWalk
  | some (c, []) => .tuple ⟨[i64 c, .slice none 0 0, .bool true]⟩
  | some (c, w :: ws) => .tuple ⟨[i64 c, sl id (ws.length + 1), .bool true]⟩

theorem blk24 (N tt fr : Int) (e0 e1 : Nat) (es : List E) (ls : List Int) (hls : ls.length ≤ 2 ^ 30 - 1) (B : Nat) :
    BlkOk Tryd.prog [] B 0 (loopG (.loop loop24) door24 (S24 N tt e0 e1 es ls (0, fr, 0, [])) (blkEnd 0 (end24 N tt e0 e1 es ls (go es ls fr 0 [])).1, (end24 N tt e0 e1 es ls (go es ls fr 0 [])).2)) := by
  refine loopG_ok noNumP mixedP (S24 N tt e0 e1 es ls) (fun d => d.1 ≤ ls.length ∧ go es (ls.drop d.1) d.2.1 d.2.2.1 d.2.2.2 = go es ls fr 0 [] ∧ d.2.2.2.length = d.1) (fun d => ls.length - d.1) (K := 10) ?_ ⟨Nat.zero_le _, rfl, rfl⟩ (by decide) ?_ ?_ ?_ ?_ (step24 N tt e0 e1 es ls hls _ B)
  · cases go es ls fr 0 [] <;> simp [end24]
  · cases go es ls fr 0 [] <;> rfl
  · cases go es ls fr 0 [] <;> rfl
  · cases go es ls fr 0 [] <;> rfl
  · intro id hid _
    have h0 : (S24 N tt e0 e1 es ls (0, fr, 0, [])).M.blks = blkTree (blks24 N es.length e0 e1 (ecOf es) (ints ls) []) := rfl
    rw [h0]
    have hall : ∀ wb, (wb = [] ∨ ∃ b, wb = [(3, b)]) → (blkTree (blks24 N es.length e0 e1 (ecOf es) (ints ls) wb)).get id = (blkTree (blks24 N es.length e0 e1 (ecOf es) (ints ls) [])).get id := by
      intro wb hwb
      have h3 : id = 0 ∨ id = 1 ∨ id = 2 := by have : id < 3 := hid; omega
      rcases hwb with rfl | ⟨b, rfl⟩
      · rfl
      · rcases h3 with rfl | rfl | rfl <;> rfl
    cases hg : go es ls fr 0 [] with
    | none => exact hall [] (.inl rfl)
    | some x =>
      obtain ⟨a, c, ws⟩ := x
      refine hall (wordB ws) ?_
      cases ws with
      | nil => exact .inl rfl
      | cons x l => exact .inr ⟨_, rfl⟩

theorem below_bool (i c : Int) : (decide (0 ≤ i) && decide (i < c)) = decide (0 ≤ i ∧ i < c) := by rw [Bool.decide_and]

theorem arun24 (N fr tt : Int) (e0 e1 : Nat) (es : List E) (ls : List Int) (hls : ls.length ≤ 2 ^ 30 - 1) : ∃ SP M', (∀ B, SpecsOk Tryd.prog [] B SP) ∧
    arun Tryd.prog [] SP 60 24 (args24 N fr tt es.length ls.length) (mem24 e0 e1 (ecOf es) (ints ls)) = some (walkV 3 (walkR N es fr tt ls), M') ∧
    ∀ c w ws, walkR N es fr tt ls = some (c, w :: ws) → M'.get 3 = some (own (ints (w :: ws)) 3 1) := by
  let t := S24 N tt e0 e1 es ls (0, fr, 0, [])
  let R := go es ls fr 0 []
  let r := (blkEnd 0 (end24 N tt e0 e1 es ls R).1, (end24 N tt e0 e1 es ls R).2)
  have hSP : ∀ B, SpecsOk Tryd.prog [] B (SPb24 t r) := fun B => specsB_ok (fun p hp => by
      simp only [List.mem_singleton] at hp; subst hp; exact ok38 B) (fun p hp => by
      simp only [List.mem_singleton] at hp; subst hp; exact blk24 N tt fr e0 e1 es ls hls B)
  have q38 : ∀ (i : Int) b, (decide (0 ≤ i) && decide (i < N)) = b → (QV.cr 38 [i64 i, i64 N] [] (.val (.bool b))).holds Tryd.prog (SPb24 t r) (fun _ => door24) [] := fun i b h M _ => call38 rfl i N b h M
  refine ⟨SPb24 t r, ?_⟩
  by_cases h1 : 0 ≤ fr ∧ fr < N
  · by_cases h2 : 0 ≤ tt ∧ tt < N
    · have hin : ∀ (e : AExit) (s : St), r = (e, s) → ∀ p ∈ qIn N fr tt es.length ls.length e0 e1 (ecOf es) (ints ls) e s, p.holds Tryd.prog (SPb24 t r) (fun _ => door24) [] := fun e s he p hp => by
        simp only [qIn, List.mem_cons, List.not_mem_nil, or_false] at hp
        rcases hp with rfl | rfl | rfl
        · exact q38 fr true (by rw [below_bool]; exact decide_eq_true h1)
        · exact q38 tt true (by rw [below_bool]; exact decide_eq_true h2)
        · refine ⟨t, by rw [← he]; rfl, rfl, rfl, rfl, fun l hl => ?_, rfl⟩
          simp only [List.mem_cons, List.not_mem_nil, or_false] at hl
          rcases hl with rfl | rfl | rfl
          · exact renL_flat _ _ (ecOf_flat es)
          · exact renL_flat _ _ (ints_flat ls)
          · exact box_still _ _ _ rfl
      cases hR : R with
      | none =>
        have hw : walkR N es fr tt ls = none := by unfold walkR; rw [if_pos ⟨h1, h2⟩]; show (match R with | some (a, c, ws) => _ | none => none) = none; rw [hR]
        have hx := run24c N fr tt es.length ls.length e0 e1 (ecOf es) (ints ls) t r
        unfold run24 at hx
        obtain ⟨M', k1, k2⟩ := run_of (look := fun M => M.get 3) Tryd.func24 body24 (by kernel_rfl) hx (.inr rfl) (hin _ _ (by show (blkEnd 0 (end24 N tt e0 e1 es ls R).1, (end24 N tt e0 e1 es ls R).2) = _; rw [hR]; rfl))
        exact ⟨M', hSP, by rw [hw]; exact k1, fun c w ws h => by rw [hw] at h; cases h⟩
      | some x =>
        obtain ⟨a, c, ws⟩ := x
        have hr : r = (.normal, fin24 N tt es.length e0 e1 (ecOf es) (ints ls) a c (wordV ws) (wordB ws)) := by show (blkEnd 0 (end24 N tt e0 e1 es ls R).1, (end24 N tt e0 e1 es ls R).2) = _; rw [hR]; rfl
        have hw : walkR N es fr tt ls = if a = tt then some (c, ws) else none := by unfold walkR; rw [if_pos ⟨h1, h2⟩]; show (match R with | some (a, c, ws) => if a = tt then some (c, ws) else none | none => none) = _; rw [hR]
        by_cases ha : a = tt
        · rw [if_pos ha] at hw
          have hb : (QV.b (a != tt) (.val (.bool false))).holds Tryd.prog (SPb24 t r) (fun _ => door24) [] := by simp [QV.holds, ha]
          cases ws with
          | nil =>
            have hx := run24e N fr tt a c es.length ls.length e0 e1 (ecOf es) (ints ls) t r
            unfold run24 at hx
            obtain ⟨M', k1, k2⟩ := run_of (look := fun M => M.get 3) Tryd.func24 body24 (by kernel_rfl) hx (.inr rfl) (fun p hp => by
              rcases List.mem_append.1 hp with hp | hp
              · exact hin _ _ hr p hp
              · rw [List.mem_singleton.1 hp]; exact hb)
            exact ⟨M', hSP, by rw [hw]; exact k1, fun c w ws h => by rw [hw] at h; cases h⟩
          | cons w ws =>
            have hx := run24f N fr tt a c es.length ls.length (ws.length + 1) e0 e1 (ecOf es) (ints ls) (ints (w :: ws)) t r
            unfold run24 at hx
            obtain ⟨M', k1, k2⟩ := run_of (look := fun M => M.get 3) Tryd.func24 body24 (by kernel_rfl) hx (.inr rfl) (fun p hp => by
              rcases List.mem_append.1 hp with hp | hp
              · exact hin _ _ hr p hp
              · rw [List.mem_singleton.1 hp]; exact hb)
            refine ⟨M', hSP, by rw [hw]; exact k1, fun c' w' ws' h => ?_⟩
            rw [hw] at h
            cases h
            exact k2
        · rw [if_neg ha] at hw
          have hb : (QV.b (a != tt) (.val (.bool true))).holds Tryd.prog (SPb24 t r) (fun _ => door24) [] := by simp [QV.holds, ha]
          have hwv : (wordV ws = .slice none 0 0 ∧ wordB ws = []) ∨ (wordV ws = sl 3 ws.length ∧ wordB ws = [(3, own (ints ws) 3 1)]) := by
            cases ws with
            | nil => exact .inl ⟨rfl, rfl⟩
            | cons x l => exact .inr ⟨rfl, rfl⟩
          have hx := run24d N fr tt a c es.length ls.length ws.length e0 e1 (ecOf es) (ints ls) (ints ws) t r (wordV ws) (wordB ws) hwv
          unfold run24 at hx
          obtain ⟨M', k1, k2⟩ := run_of (look := fun M => M.get 4) Tryd.func24 body24 (by kernel_rfl) hx (.inr rfl) (fun p hp => by
            rcases List.mem_append.1 hp with hp | hp
            · exact hin _ _ hr p hp
            · rw [List.mem_singleton.1 hp]; exact hb)
          exact ⟨M', hSP, by rw [hw]; exact k1, fun c w ws h => by rw [hw] at h; cases h⟩
    · have hw : walkR N es fr tt ls = none := by unfold walkR; rw [if_neg (fun h => h2 h.2)]
      have hx := run24b N fr tt es.length ls.length e0 e1 (ecOf es) (ints ls) t r
      unfold run24 at hx
      obtain ⟨M', k1, k2⟩ := run_of (look := fun M => M.get 3) Tryd.func24 body24 (by kernel_rfl) hx (.inr rfl) (fun p hp => by
        simp only [List.mem_cons, List.not_mem_nil, or_false] at hp
        rcases hp with rfl | rfl
        · exact q38 fr true (by rw [below_bool]; exact decide_eq_true h1)
        · exact q38 tt false (by rw [below_bool]; exact decide_eq_false h2))
      exact ⟨M', hSP, by rw [hw]; exact k1, fun c w ws h => by rw [hw] at h; cases h⟩
  · have hw : walkR N es fr tt ls = none := by unfold walkR; rw [if_neg (fun h => h1 h.1)]
    have hx := run24a N fr tt es.length ls.length e0 e1 (ecOf es) (ints ls) t r
    unfold run24 at hx
    obtain ⟨M', k1, k2⟩ := run_of (look := fun M => M.get 3) Tryd.func24 body24 (by kernel_rfl) hx (.inr rfl) (fun p hp => by
      simp only [List.mem_cons, List.not_mem_nil, or_false] at hp
      subst hp
      exact q38 fr false (by rw [below_bool]; exact decide_eq_false h1))
    exact ⟨M', hSP, by rw [hw]; exact k1, fun c w ws h => by rw [hw] at h; cases h⟩

end Go.Proofs.YtlmifmodnkhidaaDoor
