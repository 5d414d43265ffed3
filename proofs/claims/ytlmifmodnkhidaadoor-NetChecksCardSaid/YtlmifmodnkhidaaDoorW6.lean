/-
  P101, NetChecks: for every network, every number, every row of numbers that is handed in the law answers true, and its arguments read as they did. No condition but the row's own.
-/
import Derived.Test.YtlmifmodnkhidaaDoorW5
open Go Go.Am Go.Proofs
namespace Go.Proofs.YtlmifmodnkhidaaDoor
set_option maxRecDepth 10000

def ints? : List Value → Option (List Int)
  | [] => some []
  | .int .i64 z :: l => match ints? l with | some r => some (z :: r) | none => none
  | _ :: _ => none
def edges? : List Value → Option (List E)
  | [] => some []
  | .int .i64 f :: .int .i64 t :: .int .i64 m :: .int .i64 c :: l => match edges? l with | some r => some ((⟨f, t, m, c⟩ : E) :: r) | none => none
  | _ :: _ => none
theorem ints?_ints : ∀ (l : List Int), ints? (ints l) = some l
  | [] => rfl
  | z :: l => by show (match ints? (ints l) with | some r => some (z :: r) | none => none) = _; rw [ints?_ints l]
theorem edges?_ecOf : ∀ (l : List E), edges? (ecOf l) = some l
  | [] => rfl
  | e :: l => by show (match edges? (ecOf l) with | some r => some ((⟨e.f, e.t, e.m, e.c⟩ : E) :: r) | none => none) = _; rw [edges?_ecOf l]
theorem of_ints? : ∀ {l : List Value} {r : List Int}, ints? l = some r → l = ints r
  | [], r, h => by simp [ints?] at h; subst h; rfl
  | v :: l, r, h => by
    unfold ints? at h
    split at h
    · rename_i heq; cases heq
    · rename_i z l' heq
      cases heq
      split at h
      · rename_i r' hr
        cases h
        rw [of_ints? hr]; rfl
      · cases h
    · cases h
theorem of_edges? : ∀ {l : List Value} {r : List E}, edges? l = some r → l = ecOf r
  | [], r, h => by simp [edges?] at h; subst h; rfl
  | v :: l, r, h => by
    unfold edges? at h
    split at h
    · rename_i heq; cases heq
    · rename_i f t m c l' heq
      cases heq
      split at h
      · rename_i r' hr
        cases h
        rw [of_edges? hr]; rfl
      · cases h
    · cases h

def ok24b (A Bk : ABlk) (oa ob ne nl : Nat) (es : List E) (ls : List Int) : Bool :=
  Nat.beq es.length ne && Nat.beq ls.length nl && Nat.ble (oa + ne * 4) A.cs.length && Nat.ble (ob + nl) Bk.cs.length && Nat.ble nl (2 ^ 30 - 1) && Nat.beq A.esz 4 && Nat.beq Bk.esz 1
def out24 (M : Mem) : Option (Int × List Int) → Value × Mem
  | none => (noWalk, M)
  | some (c, []) => (.tuple ⟨[i64 c, .slice none 0 0, .bool true]⟩, M)
  | some (c, w :: ws) => (.tuple ⟨[i64 c, sl M.next (ws.length + 1), .bool true]⟩, M.alloc (own (ints (w :: ws)) 3 1))
def g24 (args : List Value) (M : Mem) : Option (Value × Mem) :=
  match args with
  | [.agg ⟨[.int .i64 N, .slice (some ⟨a, oa, none⟩) ne _]⟩, .int .i64 fr, .int .i64 tt, .slice (some ⟨b, ob, none⟩) nl _] =>
    match M.get a, M.get b with
    | some A, some Bk => match edges? ((A.cs.drop oa).take (ne * 4)), ints? ((Bk.cs.drop ob).take nl) with
      | some es, some ls => bif ok24b A Bk oa ob ne nl es ls then some (out24 M (walkR N es fr tt ls)) else none
      | _, _ => none
    | _, _ => none
  | _ => none

theorem take_get {l : List Value} {o n j : Nat} {u : Value} (h : ((l.drop o).take n)[j]? = some u) : l[o + j]? = some u := by
  rw [List.getElem?_take] at h
  split at h
  · rw [List.getElem?_drop] at h; exact h
  · cases h

theorem ok24 (B : Nat) : SpecOk Tryd.prog [] B 24 g24 := by
  refine SpecOk.ofStart noNumP mixedP fun args M v M' h => ?_
  unfold g24 at h
  split at h <;> try (cases h; done)
  rename_i N a oa ne ca fr tt b ob nl cb
  split at h <;> try (cases h; done)
  rename_i A Bk hA hB
  split at h <;> try (cases h; done)
  rename_i es ls hes hls
  cases hk : ok24b A Bk oa ob ne nl es ls <;> rw [hk] at h <;> simp only [cond_true, cond_false] at h
  · cases h
  unfold ok24b at hk
  simp only [Bool.and_eq_true] at hk
  obtain ⟨⟨⟨⟨⟨⟨k1, k2⟩, k3⟩, k4⟩, k5⟩, k6⟩, k7⟩ := hk
  have k1 := Nat.eq_of_beq_eq_true k1
  have k2 := Nat.eq_of_beq_eq_true k2
  have k3 := Nat.le_of_ble_eq_true k3
  have k4 := Nat.le_of_ble_eq_true k4
  have k5 := Nat.le_of_ble_eq_true k5
  have k6 := Nat.eq_of_beq_eq_true k6
  have k7 := Nat.eq_of_beq_eq_true k7
  have hA' := of_edges? hes
  have hB' := of_ints? hls
  subst k1; subst k2
  obtain ⟨SP, M0, hSP, hrun, hres⟩ := arun24 N fr tt A.elem Bk.elem es ls k5
  have hsh : ∃ v M', some (v, M') = some (out24 M (walkR N es fr tt ls)) ∧ ∃ res, (match res with
    | none => flat (walkV 3 (walkR N es fr tt ls)) = true ∧ v = walkV 3 (walkR N es fr tt ls) ∧ M' = M
    | some (i, rb) => 2 ≤ i ∧ M0.get i = some rb ∧ rb.app = true ∧ flatL rb.cs = true ∧ renV [(M.next, i, true)] (walkV 3 (walkR N es fr tt ls)) = some v ∧ M' = M.alloc rb) := by
    cases hw : walkR N es fr tt ls with
    | none => exact ⟨_, _, rfl, none, rfl, rfl, rfl⟩
    | some x =>
      obtain ⟨c, ws⟩ := x
      cases ws with
      | nil => exact ⟨_, _, rfl, none, rfl, rfl, rfl⟩
      | cons w ws => exact ⟨_, _, rfl, some (3, own (ints (w :: ws)) 3 1), by decide, hres c w ws hw, rfl, ints_flat _, rfl, rfl⟩
  obtain ⟨v1, M1, h1, res, h2⟩ := hsh
  rw [h] at h1
  cases h1
  refine ⟨[(0, ro (ecOf es) A.elem 4), (1, ro (ints ls) Bk.elem 1)], 60, SP, _, _, M0, [(a, oa), (b, ob)], res, hSP, hrun, fun p hp => ?_, fun φ φ0 args' hl ha => ?_, h2⟩
  · simp only [List.mem_cons, List.not_mem_nil, or_false] at hp
    rcases hp with rfl | rfl
    · refine ⟨rfl, rfl, ecOf_flat es, a, oa, A, rfl, hA, rfl, k6, by simp only [ecOf_len]; exact k3, fun j u hu => ?_⟩
      rw [show ecOf es = _ from hA'.symm] at hu
      exact take_get hu
    · refine ⟨rfl, rfl, ints_flat ls, b, ob, Bk, rfl, hB, rfl, k7, by simp only [ints_len]; exact k4, fun j u hu => ?_⟩
      rw [show ints ls = _ from hB'.symm] at hu
      exact take_get hu
  · cases ha with
    | cons h0 ha =>
      obtain ⟨x', rfl, g⟩ := h0.agg_inv
      cases ha with
      | cons h1 ha =>
        cases ha with
        | cons h2 ha =>
          cases ha with
          | cons h3 ha =>
            cases ha
            obtain rfl := h1.int_inv
            obtain rfl := h2.int_inv
            refine .cons ?_ (.cons (VRel.refl_flat _ _ rfl) (.cons (VRel.refl_flat _ _ rfl) (.cons (slice_lies hl rfl h3) .nil)))
            obtain ⟨x'⟩ := x'
            cases g with
            | cons g0 g =>
              cases g with
              | cons g1 g =>
                cases g
                obtain rfl := g0.int_inv
                exact .agg (.cons (VRel.refl_flat _ _ rfl) (.cons (slice_lies hl rfl g1) .nil))

theorem call24 {SP : Specs} (hS : SP.calls 24 = some g24) {N fr tt : Int} {a b ne nl ca cb : Nat} {A Bk : ABlk} {es : List E} {ls : List Int} (hA : A.cs = ecOf es) (hB : Bk.cs = ints ls) (h1 : es.length = ne) (h2 : ls.length = nl) (h3 : nl ≤ 2 ^ 30 - 1)
    (h4 : A.esz = 4) (h5 : Bk.esz = 1) {M : Mem} (hM : M.get a = some A) (hM2 : M.get b = some Bk) : onlySpecs SP 24 [.agg ⟨[i64 N, .slice (some ⟨a, 0, none⟩) ne ca]⟩, i64 fr, i64 tt, .slice (some ⟨b, 0, none⟩) nl cb] M = some (out24 M (walkR N es fr tt ls)) := by
  subst h1; subst h2
  unfold onlySpecs viaSpecs
  rw [hS]
  have e1 : edges? ((A.cs.drop 0).take (es.length * 4)) = some es := by
    rw [List.drop_zero, hA, ← ecOf_len, List.take_length]; exact edges?_ecOf es
  have e2 : ints? ((Bk.cs.drop 0).take ls.length) = some ls := by
    rw [List.drop_zero, hB, ← ints_len, List.take_length]; exact ints?_ints ls
  have e3 : ok24b A Bk 0 0 es.length ls.length es ls = true := by
    unfold ok24b
    rw [hA, hB, h4, h5, ecOf_len, ints_len, Nat.ble_eq_true_of_le h3, Nat.ble_eq_true_of_le (show 0 + es.length * 4 ≤ es.length * 4 by omega), Nat.ble_eq_true_of_le (show 0 + ls.length ≤ ls.length by omega), Nat.beq_refl, Nat.beq_refl]
    rfl
  show g24 _ M = _
  unfold g24
  simp only [hM, hM2, e1, e2, e3, cond_true]
end Go.Proofs.YtlmifmodnkhidaaDoor
