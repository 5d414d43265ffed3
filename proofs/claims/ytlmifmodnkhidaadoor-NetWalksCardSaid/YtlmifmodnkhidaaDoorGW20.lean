/-
  NetWalks: whether any edges are a walk, its cost and its word, are the document's: of any network of at most twelve vertices that is made of the numbers handed in, and of any rows of edges, of at most sixty where they are handed in; the answer is true for every argument.
-/
import Derived.Test.YtlmifmodnkhidaaDoorGW10
open Go Go.Am Go.Proofs
namespace Go.Proofs.YtlmifmodnkhidaaDoor
set_option maxRecDepth 10000
theorem w24sn_a (N fr tt : Int) (ne : Nat) : (hexec Tryd.prog [] SP24 60 B24 ⟨initT [.agg ⟨[i64 N, (sl 0 ne)]⟩, i64 fr, i64 tt, (.slice none 0 0)] 0 .nil, Tryd.f24.ntmps, startMem [] 1⟩ [got 15 (.bool false)] 0).map (fun r => (r.1.1, (), aresults Tryd.prog Tryd.f24 r.1.2, r.2.2.2.map (view noDoors []))) =
    some (.ret, (), some (noWalk), [.cr 38 [i64 fr, i64 N] [] (.val (.bool false))]) := by kernel_rfl
theorem w24sn_b (N fr tt : Int) (ne : Nat) : (hexec Tryd.prog [] SP24 60 B24 ⟨initT [.agg ⟨[i64 N, (sl 0 ne)]⟩, i64 fr, i64 tt, (.slice none 0 0)] 0 .nil, Tryd.f24.ntmps, startMem [] 1⟩ [got 15 (.bool true), got 27 (.bool false)] 0).map (fun r => (r.1.1, (), aresults Tryd.prog Tryd.f24 r.1.2, r.2.2.2.map (view noDoors []))) =
    some (.ret, (), some (noWalk), [.cr 38 [i64 fr, i64 N] [] (.val (.bool true)), .cr 38 [i64 tt, i64 N] [] (.val (.bool false))]) := by kernel_rfl
theorem w24sn_c (N fr tt : Int) (ne : Nat) : (hexec Tryd.prog [] SP24 60 B24 ⟨initT [.agg ⟨[i64 N, (sl 0 ne)]⟩, i64 fr, i64 tt, (.slice none 0 0)] 0 .nil, Tryd.f24.ntmps, startMem [] 1⟩ [got 15 (.bool true), got 27 (.bool true), tru 52] 0).map (fun r => (r.1.1, (), aresults Tryd.prog Tryd.f24 r.1.2, r.2.2.2.map (view noDoors []))) =
    some (.ret, (), some (noWalk), [.cr 38 [i64 fr, i64 N] [] (.val (.bool true)), .cr 38 [i64 tt, i64 N] [] (.val (.bool true)), .b ((fr != tt)) (.val (.bool true))]) := by kernel_rfl
theorem w24sn_d (N fr tt : Int) (ne : Nat) : (hexec Tryd.prog [] SP24 60 B24 ⟨initT [.agg ⟨[i64 N, (sl 0 ne)]⟩, i64 fr, i64 tt, (.slice none 0 0)] 0 .nil, Tryd.f24.ntmps, startMem [] 1⟩ [got 15 (.bool true), got 27 (.bool true), fls 52] 0).map (fun r => (r.1.1, (), aresults Tryd.prog Tryd.f24 r.1.2, r.2.2.2.map (view noDoors []))) =
    some (.ret, (), some (.tuple ⟨[i64 0, .slice none 0 0, .bool true]⟩), [.cr 38 [i64 fr, i64 N] [] (.val (.bool true)), .cr 38 [i64 tt, i64 N] [] (.val (.bool true)), .b ((fr != tt)) (.val (.bool false))]) := by kernel_rfl
theorem w24nn_a (N fr tt : Int) : (hexec Tryd.prog [] SP24 60 B24 ⟨initT [.agg ⟨[i64 N, (.slice none 0 0)]⟩, i64 fr, i64 tt, (.slice none 0 0)] 0 .nil, Tryd.f24.ntmps, startMem [] 0⟩ [got 15 (.bool false)] 0).map (fun r => (r.1.1, (), aresults Tryd.prog Tryd.f24 r.1.2, r.2.2.2.map (view noDoors []))) =
    some (.ret, (), some (noWalk), [.cr 38 [i64 fr, i64 N] [] (.val (.bool false))]) := by kernel_rfl
theorem w24nn_b (N fr tt : Int) : (hexec Tryd.prog [] SP24 60 B24 ⟨initT [.agg ⟨[i64 N, (.slice none 0 0)]⟩, i64 fr, i64 tt, (.slice none 0 0)] 0 .nil, Tryd.f24.ntmps, startMem [] 0⟩ [got 15 (.bool true), got 27 (.bool false)] 0).map (fun r => (r.1.1, (), aresults Tryd.prog Tryd.f24 r.1.2, r.2.2.2.map (view noDoors []))) =
    some (.ret, (), some (noWalk), [.cr 38 [i64 fr, i64 N] [] (.val (.bool true)), .cr 38 [i64 tt, i64 N] [] (.val (.bool false))]) := by kernel_rfl
theorem w24nn_c (N fr tt : Int) : (hexec Tryd.prog [] SP24 60 B24 ⟨initT [.agg ⟨[i64 N, (.slice none 0 0)]⟩, i64 fr, i64 tt, (.slice none 0 0)] 0 .nil, Tryd.f24.ntmps, startMem [] 0⟩ [got 15 (.bool true), got 27 (.bool true), tru 52] 0).map (fun r => (r.1.1, (), aresults Tryd.prog Tryd.f24 r.1.2, r.2.2.2.map (view noDoors []))) =
    some (.ret, (), some (noWalk), [.cr 38 [i64 fr, i64 N] [] (.val (.bool true)), .cr 38 [i64 tt, i64 N] [] (.val (.bool true)), .b ((fr != tt)) (.val (.bool true))]) := by kernel_rfl
theorem w24nn_d (N fr tt : Int) : (hexec Tryd.prog [] SP24 60 B24 ⟨initT [.agg ⟨[i64 N, (.slice none 0 0)]⟩, i64 fr, i64 tt, (.slice none 0 0)] 0 .nil, Tryd.f24.ntmps, startMem [] 0⟩ [got 15 (.bool true), got 27 (.bool true), fls 52] 0).map (fun r => (r.1.1, (), aresults Tryd.prog Tryd.f24 r.1.2, r.2.2.2.map (view noDoors []))) =
    some (.ret, (), some (.tuple ⟨[i64 0, .slice none 0 0, .bool true]⟩), [.cr 38 [i64 fr, i64 N] [] (.val (.bool true)), .cr 38 [i64 tt, i64 N] [] (.val (.bool true)), .b ((fr != tt)) (.val (.bool false))]) := by kernel_rfl
theorem w24ns_a (N fr tt li : Int) (nl e1 : Nat) (lc : List Value) : (hexec Tryd.prog [] SP24 60 B24 ⟨initT [.agg ⟨[i64 N, (.slice none 0 0)]⟩, i64 fr, i64 tt, (sl 0 nl)] 0 .nil, Tryd.f24.ntmps, startMem [(0, ro lc e1 1)] 1⟩ [got 15 (.bool false)] 0).map (fun r => (r.1.1, (), aresults Tryd.prog Tryd.f24 r.1.2, r.2.2.2.map (view noDoors []))) =
    some (.ret, (), some (noWalk), [.cr 38 [i64 fr, i64 N] [] (.val (.bool false))]) := by kernel_rfl
theorem w24ns_b (N fr tt li : Int) (nl e1 : Nat) (lc : List Value) : (hexec Tryd.prog [] SP24 60 B24 ⟨initT [.agg ⟨[i64 N, (.slice none 0 0)]⟩, i64 fr, i64 tt, (sl 0 nl)] 0 .nil, Tryd.f24.ntmps, startMem [(0, ro lc e1 1)] 1⟩ [got 15 (.bool true), got 27 (.bool false)] 0).map (fun r => (r.1.1, (), aresults Tryd.prog Tryd.f24 r.1.2, r.2.2.2.map (view noDoors []))) =
    some (.ret, (), some (noWalk), [.cr 38 [i64 fr, i64 N] [] (.val (.bool true)), .cr 38 [i64 tt, i64 N] [] (.val (.bool false))]) := by kernel_rfl
theorem w24ns_c (N fr tt li : Int) (nl e1 : Nat) (lc : List Value) : (hexec Tryd.prog [] SP24 60 B24 ⟨initT [.agg ⟨[i64 N, (.slice none 0 0)]⟩, i64 fr, i64 tt, (sl 0 nl)] 0 .nil, Tryd.f24.ntmps, startMem [(0, ro lc e1 1)] 1⟩ [got 15 (.bool true), got 27 (.bool true), fls 45, tru 52] 0).map (fun r => (r.1.1, (), aresults Tryd.prog Tryd.f24 r.1.2, r.2.2.2.map (view noDoors []))) =
    some (.ret, (), some (noWalk), [.cr 38 [i64 fr, i64 N] [] (.val (.bool true)), .cr 38 [i64 tt, i64 N] [] (.val (.bool true)), .b (decide ((0 : Int) < (nl : Int))) (.val (.bool false)), .b ((fr != tt)) (.val (.bool true))]) := by kernel_rfl
theorem w24ns_d (N fr tt li : Int) (nl e1 : Nat) (lc : List Value) : (hexec Tryd.prog [] SP24 60 B24 ⟨initT [.agg ⟨[i64 N, (.slice none 0 0)]⟩, i64 fr, i64 tt, (sl 0 nl)] 0 .nil, Tryd.f24.ntmps, startMem [(0, ro lc e1 1)] 1⟩ [got 15 (.bool true), got 27 (.bool true), fls 45, fls 52] 0).map (fun r => (r.1.1, (), aresults Tryd.prog Tryd.f24 r.1.2, r.2.2.2.map (view noDoors []))) =
    some (.ret, (), some (.tuple ⟨[i64 0, .slice none 0 0, .bool true]⟩), [.cr 38 [i64 fr, i64 N] [] (.val (.bool true)), .cr 38 [i64 tt, i64 N] [] (.val (.bool true)), .b (decide ((0 : Int) < (nl : Int))) (.val (.bool false)), .b ((fr != tt)) (.val (.bool false))]) := by kernel_rfl
theorem w24ns_e (N fr tt li : Int) (nl e1 : Nat) (lc : List Value) : (hexec Tryd.prog [] SP24 60 B24 ⟨initT [.agg ⟨[i64 N, (.slice none 0 0)]⟩, i64 fr, i64 tt, (sl 0 nl)] 0 .nil, Tryd.f24.ntmps, startMem [(0, ro lc e1 1)] 1⟩ [got 15 (.bool true), got 27 (.bool true), tru 45, tru 47, got 49 (i64 li), got 61 (.bool false)] 0).map (fun r => (r.1.1, (), aresults Tryd.prog Tryd.f24 r.1.2, r.2.2.2.map (view noDoors []))) =
    some (.ret, (), some (noWalk), [.cr 38 [i64 fr, i64 N] [] (.val (.bool true)), .cr 38 [i64 tt, i64 N] [] (.val (.bool true)), .b (decide ((0 : Int) < (nl : Int))) (.val (.bool true)), .ib 0 nl, .ld 3 (0 + (0 : Int).toNat * 1) (some (ro lc e1 1)) (.val (i64 li)), .cr 38 [i64 li, i64 0] [] (.val (.bool false))]) := by kernel_rfl
end Go.Proofs.YtlmifmodnkhidaaDoor

open Go Go.Am Go.Proofs
namespace Go.Proofs.YtlmifmodnkhidaaDoor
set_option maxRecDepth 10000

theorem SpecOk.either {P : Program} {GL : List Nat} {B : Nat} {f : FuncId} {g g1 g2 : List Value → Mem → Option (Value × Mem)} (h1 : SpecOk P GL B f g1) (h2 : SpecOk P GL B f g2) (h : ∀ args M r, g args M = some r → g1 args M = some r ∨ g2 args M = some r) : SpecOk P GL B f g :=
  ⟨fun args M v M' hg => (h args M _ hg).elim (h1.abs args M v M') (h2.abs args M v M'), fun args M v M' hg => (h args M _ hg).elim (h1.run args M v M') (h2.run args M v M')⟩

theorem go_nil (ls : List Int) (a c : Int) (ws : List Int) : go [] ls a c ws = match ls with | [] => some (a, c, ws) | _ :: _ => none := by
  cases ls with
  | nil => rfl
  | cons x l =>
    unfold go
    rw [if_neg (by intro h; simp at h; omega)]

/- Where one of the rows is none at all. -/
def g24n (args : List Value) (M : Mem) : Option (Value × Mem) :=
  match args with
  | [.agg ⟨[.int .i64 N, .slice none 0 0]⟩, .int .i64 fr, .int .i64 tt, .slice none 0 0] => some (out24 M (walkR N [] fr tt []))
  | [.agg ⟨[.int .i64 N, .slice (some ⟨_, _, none⟩) _ _]⟩, .int .i64 fr, .int .i64 tt, .slice none 0 0] => some (out24 M (walkR N [] fr tt []))
  | [.agg ⟨[.int .i64 N, .slice none 0 0]⟩, .int .i64 fr, .int .i64 tt, .slice (some ⟨b, ob, none⟩) nl _] =>
    match M.get b with
    | some Bk => match ints? ((Bk.cs.drop ob).take nl) with
      | some ls => bif Nat.beq ls.length nl && Nat.ble (ob + nl) Bk.cs.length && Nat.beq Bk.esz 1 then some (out24 M (walkR N [] fr tt ls)) else none
      | none => none
    | none => none
  | _ => none

theorem walkR_nil (N fr tt : Int) (es : List E) : walkR N es fr tt [] = walkR N [] fr tt [] := rfl
theorem out24_nil (M : Mem) (N fr tt : Int) (ls : List Int) : out24 M (walkR N [] fr tt ls) = (walkV 0 (walkR N [] fr tt ls), M) ∧ flat (walkV 0 (walkR N [] fr tt ls)) = true := by
  unfold walkR
  rw [go_nil]
  split
  · cases ls with
    | nil =>
      simp only
      split
      · exact ⟨rfl, rfl⟩
      · exact ⟨rfl, rfl⟩
    | cons x l => exact ⟨rfl, rfl⟩
  · exact ⟨rfl, rfl⟩

theorem bb {SP : Specs} {D : Nat → Door} {ids : List Nat} {a c : Int} {b : Bool} (h : (a != c) = b) : (QV.b (a != c) (.val (.bool b))).holds Tryd.prog SP D ids := by subst h; rfl

theorem ok24n (B : Nat) : SpecOk Tryd.prog [] B 24 g24n := by
  have h38 : ∀ (i c : Int) (b : Bool), (0 ≤ i ∧ i < c ↔ b = true) → (QV.cr 38 [i64 i, i64 c] [] (.val (.bool b))).holds Tryd.prog SP24 noDoors [] := fun i c b h M _ =>
    call38 rfl i c b (by rw [below_bool]; cases b <;> simp_all) M
  have fin : ∀ {args0 : List Value} {l : List (Nat × ABlk)} {k : Nat} {F : List Fact} {v : Value} {q : List QV}, (hexec Tryd.prog [] SP24 60 B24 ⟨initT args0 0 .nil, Tryd.f24.ntmps, startMem l k⟩ F 0).map (fun r => (r.1.1, (), aresults Tryd.prog Tryd.f24 r.1.2, r.2.2.2.map (view noDoors []))) = some (.ret, (), some v, q) →
      Nat.ble args0.length Tryd.f24.ntmps = true → (∀ p ∈ q, p.holds Tryd.prog SP24 noDoors []) → ∃ M0, Go.Am.arun Tryd.prog [] SP24 60 24 args0 (startMem l k) = some (v, M0) := fun hx hl hq => by
    obtain ⟨M0, k1, _⟩ := run_of (look := fun _ => ()) Tryd.func24 body24 hl hx (.inr rfl) hq
    exact ⟨M0, k1⟩
  refine SpecOk.ofStart noNumP mixedP fun args M v M' h => ?_
  unfold g24n at h
  split at h <;> try (cases h; done)
  · rename_i N fr tt
    obtain ⟨o1, o2⟩ := out24_nil M N fr tt []
    rw [o1] at h
    cases h
    have hr : ∃ M0, Go.Am.arun Tryd.prog [] SP24 60 24 [.agg ⟨[i64 N, .slice none 0 0]⟩, i64 fr, i64 tt, .slice none 0 0] (startMem [] 0) = some (walkV 0 (walkR N [] fr tt []), M0) := by
      by_cases h1 : 0 ≤ fr ∧ fr < N
      · by_cases h2 : 0 ≤ tt ∧ tt < N
        · by_cases h3 : fr = tt
          · obtain ⟨M0, k⟩ := fin (w24nn_d N fr tt) (by kernel_rfl) (by simp only [List.forall_mem_cons]; exact ⟨h38 _ _ _ (by simp [h1]), h38 _ _ _ (by simp [h2]), bb (by simp [h3]), by simp⟩)
            exact ⟨M0, by rw [k]; unfold walkR; rw [if_pos ⟨h1, h2⟩]; simp [go, h3, walkV]⟩
          · obtain ⟨M0, k⟩ := fin (w24nn_c N fr tt) (by kernel_rfl) (by simp only [List.forall_mem_cons]; exact ⟨h38 _ _ _ (by simp [h1]), h38 _ _ _ (by simp [h2]), bb (by simp [h3]), by simp⟩)
            exact ⟨M0, by rw [k]; unfold walkR; rw [if_pos ⟨h1, h2⟩]; simp [go, h3, walkV]⟩
        · obtain ⟨M0, k⟩ := fin (w24nn_b N fr tt) (by kernel_rfl) (by simp only [List.forall_mem_cons]; exact ⟨h38 _ _ _ (by simp [h1]), h38 _ _ _ (by simpa using h2), by simp⟩)
          exact ⟨M0, by rw [k]; unfold walkR; rw [if_neg (fun h => h2 h.2)]; rfl⟩
      · obtain ⟨M0, k⟩ := fin (w24nn_a N fr tt) (by kernel_rfl) (by simp only [List.forall_mem_cons]; exact ⟨h38 _ _ _ (by simpa using h1), by simp⟩)
        exact ⟨M0, by rw [k]; unfold walkR; rw [if_neg (fun h => h1 h.1)]; rfl⟩
    obtain ⟨M0, hrun⟩ := hr
    refine ⟨[], 60, SP24, _, _, M0, [], none, specs24, hrun, fun p hp => (by cases hp), fun φ φ0 args' hl ha => ?_, o2, rfl, rfl⟩
    rw [ha.of_flat rfl]
    exact LRel.refl_flat _ _ rfl
  · rename_i N a oa ne ca fr tt
    obtain ⟨o1, o2⟩ := out24_nil M N fr tt []
    rw [o1] at h
    cases h
    have hr : ∃ M0, Go.Am.arun Tryd.prog [] SP24 60 24 [.agg ⟨[i64 N, sl 0 ne]⟩, i64 fr, i64 tt, .slice none 0 0] (startMem [] 1) = some (walkV 0 (walkR N [] fr tt []), M0) := by
      by_cases h1 : 0 ≤ fr ∧ fr < N
      · by_cases h2 : 0 ≤ tt ∧ tt < N
        · by_cases h3 : fr = tt
          · obtain ⟨M0, k⟩ := fin (w24sn_d N fr tt ne) (by kernel_rfl) (by simp only [List.forall_mem_cons]; exact ⟨h38 _ _ _ (by simp [h1]), h38 _ _ _ (by simp [h2]), bb (by simp [h3]), by simp⟩)
            exact ⟨M0, by rw [k]; unfold walkR; rw [if_pos ⟨h1, h2⟩]; simp [go, h3, walkV]⟩
          · obtain ⟨M0, k⟩ := fin (w24sn_c N fr tt ne) (by kernel_rfl) (by simp only [List.forall_mem_cons]; exact ⟨h38 _ _ _ (by simp [h1]), h38 _ _ _ (by simp [h2]), bb (by simp [h3]), by simp⟩)
            exact ⟨M0, by rw [k]; unfold walkR; rw [if_pos ⟨h1, h2⟩]; simp [go, h3, walkV]⟩
        · obtain ⟨M0, k⟩ := fin (w24sn_b N fr tt ne) (by kernel_rfl) (by simp only [List.forall_mem_cons]; exact ⟨h38 _ _ _ (by simp [h1]), h38 _ _ _ (by simpa using h2), by simp⟩)
          exact ⟨M0, by rw [k]; unfold walkR; rw [if_neg (fun h => h2 h.2)]; rfl⟩
      · obtain ⟨M0, k⟩ := fin (w24sn_a N fr tt ne) (by kernel_rfl) (by simp only [List.forall_mem_cons]; exact ⟨h38 _ _ _ (by simpa using h1), by simp⟩)
        exact ⟨M0, by rw [k]; unfold walkR; rw [if_neg (fun h => h1 h.1)]; rfl⟩
    obtain ⟨M0, hrun⟩ := hr
    refine ⟨[], 60, SP24, _, _, M0, [(a, oa)], none, specs24, hrun, fun p hp => (by cases hp), fun φ φ0 args' hl ha => ?_, o2, rfl, rfl⟩
    cases ha with
    | cons g0 ha =>
      obtain ⟨x', rfl, g⟩ := g0.agg_inv
      obtain ⟨x'⟩ := x'
      cases ha with
      | cons g1 ha =>
        cases ha with
        | cons g2 ha =>
          cases ha with
          | cons g3 ha =>
            cases ha
            obtain rfl := g1.int_inv
            obtain rfl := g2.int_inv
            have := g3.of_flat rfl
            subst this
            cases g with
            | cons k0 g =>
              cases g with
              | cons k1 g =>
                cases g
                obtain rfl := k0.int_inv
                exact .cons (.agg (.cons (VRel.refl_flat _ _ rfl) (.cons (slice_lies hl rfl k1) .nil))) (.cons (VRel.refl_flat _ _ rfl) (.cons (VRel.refl_flat _ _ rfl) (.cons (VRel.refl_flat _ _ rfl) .nil)))
  · rename_i N fr tt b ob nl cb
    split at h <;> try (cases h; done)
    rename_i Bk hB
    split at h <;> try (cases h; done)
    rename_i ls hls
    cases hk : (Nat.beq ls.length nl && Nat.ble (ob + nl) Bk.cs.length && Nat.beq Bk.esz 1) <;> rw [hk] at h <;> simp only [cond_true, cond_false] at h
    · cases h
    simp only [Bool.and_eq_true] at hk
    obtain ⟨⟨k1, k2⟩, k3⟩ := hk
    have k1 := Nat.eq_of_beq_eq_true k1
    have k2 := Nat.le_of_ble_eq_true k2
    have k3 := Nat.eq_of_beq_eq_true k3
    subst k1
    have hB' := of_ints? hls
    obtain ⟨o1, o2⟩ := out24_nil M N fr tt ls
    rw [o1] at h
    cases h
    have hr : ∃ M0, Go.Am.arun Tryd.prog [] SP24 60 24 [.agg ⟨[i64 N, .slice none 0 0]⟩, i64 fr, i64 tt, sl 0 ls.length] (startMem [(0, ro (ints ls) Bk.elem 1)] 1) = some (walkV 0 (walkR N [] fr tt ls), M0) := by
      by_cases h1 : 0 ≤ fr ∧ fr < N
      · by_cases h2 : 0 ≤ tt ∧ tt < N
        · cases ls with
          | nil =>
            by_cases h3 : fr = tt
            · obtain ⟨M0, k⟩ := fin (w24ns_d N fr tt 0 0 Bk.elem (ints [])) (by kernel_rfl) (by simp only [List.forall_mem_cons]; exact ⟨h38 _ _ _ (by simp [h1]), h38 _ _ _ (by simp [h2]), dq (by simp), bb (by simp [h3]), by simp⟩)
              exact ⟨M0, by refine k.trans ?_; unfold walkR; rw [if_pos ⟨h1, h2⟩]; simp [go, h3, walkV]⟩
            · obtain ⟨M0, k⟩ := fin (w24ns_c N fr tt 0 0 Bk.elem (ints [])) (by kernel_rfl) (by simp only [List.forall_mem_cons]; exact ⟨h38 _ _ _ (by simp [h1]), h38 _ _ _ (by simp [h2]), dq (by simp), bb (by simp [h3]), by simp⟩)
              exact ⟨M0, by refine k.trans ?_; unfold walkR; rw [if_pos ⟨h1, h2⟩]; simp [go, h3, walkV]⟩
          | cons x l =>
            obtain ⟨M0, k⟩ := fin (w24ns_e N fr tt x (l.length + 1) Bk.elem (ints (x :: l))) (by kernel_rfl) (by
              simp only [List.forall_mem_cons]
              exact ⟨h38 _ _ _ (by simp [h1]), h38 _ _ _ (by simp [h2]), dq (by simp <;> omega), by simp only [QV.holds, inB, Bool.and_eq_true, decide_eq_true_eq]; omega, ⟨_, rfl, by rw [ld3]; rfl⟩, h38 _ _ _ (by simp <;> omega), by simp⟩)
            exact ⟨M0, by refine k.trans ?_; unfold walkR; rw [if_pos ⟨h1, h2⟩, go_nil]; rfl⟩
        · obtain ⟨M0, k⟩ := fin (w24ns_b N fr tt 0 ls.length Bk.elem (ints ls)) (by kernel_rfl) (by simp only [List.forall_mem_cons]; exact ⟨h38 _ _ _ (by simp [h1]), h38 _ _ _ (by simpa using h2), by simp⟩)
          exact ⟨M0, by rw [k]; unfold walkR; rw [if_neg (fun h => h2 h.2)]; rfl⟩
      · obtain ⟨M0, k⟩ := fin (w24ns_a N fr tt 0 ls.length Bk.elem (ints ls)) (by kernel_rfl) (by simp only [List.forall_mem_cons]; exact ⟨h38 _ _ _ (by simpa using h1), by simp⟩)
        exact ⟨M0, by rw [k]; unfold walkR; rw [if_neg (fun h => h1 h.1)]; rfl⟩
    obtain ⟨M0, hrun⟩ := hr
    refine ⟨[(0, ro (ints ls) Bk.elem 1)], 60, SP24, _, _, M0, [(b, ob)], none, specs24, hrun, fun p hp => ?_, fun φ φ0 args' hl ha => ?_, o2, rfl, rfl⟩
    · simp only [List.mem_singleton] at hp
      subst hp
      refine ⟨rfl, rfl, ints_flat ls, b, ob, Bk, rfl, hB, rfl, k3, by simp only [ints_len]; exact k2, fun j u hu => ?_⟩
      rw [show ints ls = _ from hB'.symm] at hu
      exact take_get hu
    · cases ha with
      | cons g0 ha =>
        have := g0.of_flat rfl
        subst this
        cases ha with
        | cons g1 ha =>
          cases ha with
          | cons g2 ha =>
            cases ha with
            | cons g3 ha =>
              cases ha
              obtain rfl := g1.int_inv
              obtain rfl := g2.int_inv
              exact .cons (VRel.refl_flat _ _ rfl) (.cons (VRel.refl_flat _ _ rfl) (.cons (VRel.refl_flat _ _ rfl) (.cons (slice_lies hl rfl g3) .nil)))
/- The walk, whatever is handed in. -/
def gW (args : List Value) (M : Mem) : Option (Value × Mem) :=
  match g24 args M with
  | some r => some r
  | none => g24n args M
theorem ok24W (B : Nat) : SpecOk Tryd.prog [] B 24 gW := SpecOk.either (ok24 B) (ok24n B) fun args M r h => by
  unfold gW at h
  split at h
  · rename_i x hx
    cases h; exact .inl hx
  · exact .inr h
end Go.Proofs.YtlmifmodnkhidaaDoor

open Go Go.Am Go.Proofs
namespace Go.Proofs.YtlmifmodnkhidaaDoor
set_option maxRecDepth 10000

/- Ints -/
noncomputable def B26 : Code := Tryd.f26.body.get!
theorem body26 : Tryd.f26.body = some B26 := by kernel_rfl
noncomputable def loop26 : Code := unloop ((inner 0 100 B26).get!)
def blks26 (e0 e1 : Nat) (xc yc : List Value) : List (Nat × ABlk) := [(0, ro xc e0 1), (1, ro yc e1 1)]
def I26 (n1 n2 e0 e1 : Nat) (xc yc : List Value) (iv : Int) : St := ⟨tabT [(0, sl 0 n1), (1, sl 1 n2), (4, .bool false), (5, i64 iv)], 26, ⟨blkTree (blks26 e0 e1 xc yc), 2, [], []⟩⟩
def fin26 (e0 e1 : Nat) (xc yc : List Value) : St := ⟨tabT [(4, .bool false)], 26, ⟨blkTree (blks26 e0 e1 xc yc), 2, [], []⟩⟩
def mv26 : Moves := [(0, 0, true), (1, 1, true)]
noncomputable def rnd26 (s : St) (F : List Fact) (keep : List Nat) :=
  (hexec Tryd.prog [] noSpecs 60 loop26 s F 0).map (fun r => (r.1.1, rebase 2 2 mv26 keep [] [] r.1.2, stills r.1.2.M mv26, Nat.ble r.1.2.M.next 2, r.2.2.2.map (view noDoors [])))
def door26 : Nat → Door := fun _ => ⟨2, 2, mv26, [0, 1, 4, 5], [], []⟩
noncomputable def run26 (s1 s2 : Value) (l : List (Nat × ABlk)) (n : Nat) (SP : Specs) (F : List Fact) :=
  (hexec Tryd.prog [] SP 60 B26 ⟨initT [s1, s2] 0 .nil, Tryd.f26.ntmps, startMem l n⟩ F 0).map (fun r => (r.1.1, (), aresults Tryd.prog Tryd.f26 r.1.2, r.2.2.2.map (view door26 [])))
theorem st26 (n1 n2 e0 e1 : Nat) (xc yc : List Value) (iv a b : Int) : rnd26 (I26 n1 n2 e0 e1 xc yc iv) [tru 8, tru 14, got 16 (i64 a), tru 22, got 24 (i64 b), fls 27] [0, 1, 4, 5] =
    some (.normal, some (I26 n1 n2 e0 e1 xc yc (IntKind.wrap .i64 (iv + 1))), [xc, yc], true, [.b (decide (iv < (n1 : Int))) (.val (.bool true)), .ib iv n1, .ld 3 (0 + iv.toNat * 1) (some (ro xc e0 1)) (.val (i64 a)), .ib iv n2, .ld 3 (0 + iv.toNat * 1) (some (ro yc e1 1)) (.val (i64 b)), .b ((a != b)) (.val (.bool false))]) := by kernel_rfl
theorem st26b (n1 n2 e0 e1 : Nat) (xc yc : List Value) (iv a b : Int) : rnd26 (I26 n1 n2 e0 e1 xc yc iv) [tru 8, tru 14, got 16 (i64 a), tru 22, got 24 (i64 b), tru 27] [4] =
    some (.ret, some (fin26 e0 e1 xc yc), [xc, yc], true, [.b (decide (iv < (n1 : Int))) (.val (.bool true)), .ib iv n1, .ld 3 (0 + iv.toNat * 1) (some (ro xc e0 1)) (.val (i64 a)), .ib iv n2, .ld 3 (0 + iv.toNat * 1) (some (ro yc e1 1)) (.val (i64 b)), .b ((a != b)) (.val (.bool true))]) := by kernel_rfl
theorem st26e (n1 n2 e0 e1 : Nat) (xc yc : List Value) (iv : Int) : rnd26 (I26 n1 n2 e0 e1 xc yc iv) [fls 8] [4] =
    some (.exit 0, some (fin26 e0 e1 xc yc), [xc, yc], true, [.b (decide (iv < (n1 : Int))) (.val (.bool false))]) := by kernel_rfl
theorem r26a (n1 n2 e0 e1 : Nat) (xc yc : List Value) (g : Code → St → Option (AExit × St)) : run26 (sl 0 n1) (sl 1 n2) [(0, ro xc e0 1), (1, ro yc e1 1)] 2 (specsB [] [(0, g)]) [tru 12] = some (.ret, (), some (.bool false), [.b (((n1 : Int) != (n2 : Int))) (.val (.bool true))]) := by kernel_rfl
theorem r26b (n1 n2 e0 e1 : Nat) (xc yc : List Value) (g : Code → St → Option (AExit × St)) : run26 (sl 0 n1) (sl 1 n2) [(0, ro xc e0 1), (1, ro yc e1 1)] 2 (specsB [] [(0, g)]) [fls 12, past 15 .normal (fin26 e0 e1 xc yc)] = some (.ret, (), some (.bool true), [.b (((n1 : Int) != (n2 : Int))) (.val (.bool false)), .bk 0 (.loop loop26) 2 [] (some (I26 n1 n2 e0 e1 xc yc 0)) [xc, yc] true .normal (fin26 e0 e1 xc yc)]) := by kernel_rfl
theorem r26c (n1 n2 e0 e1 : Nat) (xc yc : List Value) (g : Code → St → Option (AExit × St)) : run26 (sl 0 n1) (sl 1 n2) [(0, ro xc e0 1), (1, ro yc e1 1)] 2 (specsB [] [(0, g)]) [fls 12, past 15 .ret (fin26 e0 e1 xc yc)] = some (.ret, (), some (.bool false), [.b (((n1 : Int) != (n2 : Int))) (.val (.bool false)), .bk 0 (.loop loop26) 2 [] (some (I26 n1 n2 e0 e1 xc yc 0)) [xc, yc] true .ret (fin26 e0 e1 xc yc)]) := by kernel_rfl
theorem r26nn : run26 (.slice none 0 0) (.slice none 0 0) [] 0 noSpecs [] = some (.ret, (), some (.bool true), []) := by kernel_rfl
theorem r26sn_a (n1 : Nat) : run26 (sl 0 n1) (.slice none 0 0) [] 1 noSpecs [tru 12] = some (.ret, (), some (.bool false), [.b (((n1 : Int) != 0)) (.val (.bool true))]) := by kernel_rfl
theorem r26sn_b (n1 : Nat) : run26 (sl 0 n1) (.slice none 0 0) [] 1 noSpecs [fls 12, fls 23] = some (.ret, (), some (.bool true), [.b (((n1 : Int) != 0)) (.val (.bool false)), .b (decide ((0 : Int) < (n1 : Int))) (.val (.bool false))]) := by kernel_rfl
theorem r26ns_a (n1 : Nat) : run26 (.slice none 0 0) (sl 0 n1) [] 1 noSpecs [tru 12] = some (.ret, (), some (.bool false), [.b (((0 : Int) != (n1 : Int))) (.val (.bool true))]) := by kernel_rfl
theorem r26ns_b (n1 : Nat) : run26 (.slice none 0 0) (sl 0 n1) [] 1 noSpecs [fls 12] = some (.ret, (), some (.bool true), [.b (((0 : Int) != (n1 : Int))) (.val (.bool false))]) := by kernel_rfl

def eqB (xs ys : List Int) : Bool := decide (xs = ys)
def endI : Bool → AExit
  | true => .exit 0
  | false => .ret
theorem drop_eq {xs ys : List Int} (h : xs.length = ys.length) {d : Nat} {a b : Int} (hx : xs[d]? = some a) (hy : ys[d]? = some b) : (xs.drop d = ys.drop d) ↔ (a = b ∧ xs.drop (d + 1) = ys.drop (d + 1)) := by
  have hd : d < xs.length := by
    by_cases hh : d < xs.length
    · exact hh
    · rw [List.getElem?_eq_none (by omega)] at hx; cases hx
  rw [List.drop_eq_getElem_cons hd, List.drop_eq_getElem_cons (show d < ys.length by omega)]
  rw [List.getElem?_eq_getElem hd] at hx
  rw [List.getElem?_eq_getElem (show d < ys.length by omega)] at hy
  cases hx; cases hy
  exact List.cons_eq_cons

theorem step26 (e0 e1 : Nat) (xs ys : List Int) (hl : xs.length = ys.length) (hb : xs.length ≤ 2 ^ 60) (B : Nat) (d : Nat) (hd : d ≤ xs.length ∧ (xs.drop d = ys.drop d ↔ eqB xs ys = true)) :
    ∃ SP n s1, SpecsOk Tryd.prog [] B SP ∧ s1.M.next ≤ 2 ∧
      ((∃ nx mv keep d', aexec Tryd.prog [] SP n loop26 (I26 xs.length ys.length e0 e1 (ints xs) (ints ys) d) = some (.normal, s1) ∧ View 2 nx mv keep [] [] s1 (I26 xs.length ys.length e0 e1 (ints xs) (ints ys) (d' : Nat)) ∧ (d' ≤ xs.length ∧ (xs.drop d' = ys.drop d' ↔ eqB xs ys = true)) ∧ xs.length - d' < xs.length - d) ∨
        (∃ mv keep, aexec Tryd.prog [] SP n loop26 (I26 xs.length ys.length e0 e1 (ints xs) (ints ys) d) = some (endI (eqB xs ys), s1) ∧ View 2 2 mv keep [] [] s1 (fin26 e0 e1 (ints xs) (ints ys)))) := by
  obtain ⟨h1, h2⟩ := hd
  have fl : ∀ l ∈ [ints xs, ints ys], renL mv26 l = some l := fun l hl => by
    simp only [List.mem_cons, List.not_mem_nil, or_false] at hl
    rcases hl with rfl | rfl <;> exact renL_flat _ _ (ints_flat _)
  by_cases hlt : d < xs.length
  · obtain ⟨a, ha⟩ : ∃ a, xs[d]? = some a := ⟨xs[d], List.getElem?_eq_getElem hlt⟩
    obtain ⟨b, hb'⟩ : ∃ b, ys[d]? = some b := ⟨ys[d]'(by omega), List.getElem?_eq_getElem (by omega)⟩
    have g1 : (QV.b (decide ((d : Int) < (xs.length : Int))) (.val (.bool true))).holds Tryd.prog noSpecs noDoors [] := dq (by simp; omega)
    have g2 : (QV.ib (d : Int) xs.length).holds Tryd.prog noSpecs noDoors [] := by simp only [QV.holds, inB, Bool.and_eq_true, decide_eq_true_eq]; omega
    have g3 : (QV.ib (d : Int) ys.length).holds Tryd.prog noSpecs noDoors [] := by simp only [QV.holds, inB, Bool.and_eq_true, decide_eq_true_eq]; omega
    have g4 : (QV.ld 3 (0 + ((d : Nat) : Int).toNat * 1) (some (ro (ints xs) e0 1)) (.val (i64 a))).holds Tryd.prog noSpecs noDoors [] := ⟨_, rfl, by rw [ld3]; simpa using ints_get ha⟩
    have g5 : (QV.ld 3 (0 + ((d : Nat) : Int).toNat * 1) (some (ro (ints ys) e1 1)) (.val (i64 b))).holds Tryd.prog noSpecs noDoors [] := ⟨_, rfl, by rw [ld3]; simpa using ints_get hb'⟩
    have h3 := drop_eq hl ha hb'
    by_cases hab : a = b
    · have hs := st26 xs.length ys.length e0 e1 (ints xs) (ints ys) d a b
      unfold rnd26 at hs
      obtain ⟨s1, k1, k2, k3⟩ := round_of (doors := noDoors) (ids := []) hs (by simp only [List.forall_mem_cons]; exact ⟨g1, g2, g4, g3, g5, bb (by simp [hab]), by simp⟩) fl
      have hiv : IntKind.wrap .i64 ((d : Int) + 1) = ((d + 1 : Nat) : Int) := by rw [IntWalk.i64_in _ (by omega)]; omega
      rw [hiv] at k3
      exact ⟨noSpecs, 60, s1, SpecsOk.none, k1, .inl ⟨2, _, _, d + 1, k2, k3, ⟨by omega, by rw [← h2, h3]; simp [hab]⟩, by omega⟩⟩
    · have hs := st26b xs.length ys.length e0 e1 (ints xs) (ints ys) d a b
      unfold rnd26 at hs
      obtain ⟨s1, k1, k2, k3⟩ := round_of (doors := noDoors) (ids := []) hs (by simp only [List.forall_mem_cons]; exact ⟨g1, g2, g4, g3, g5, bb (by simp [hab]), by simp⟩) fl
      have hall : eqB xs ys = false := by
        cases hq : eqB xs ys with
        | false => rfl
        | true => exact absurd (h3.1 (h2.2 hq)).1 hab
      rw [hall]
      exact ⟨noSpecs, 60, s1, SpecsOk.none, k1, .inr ⟨_, _, k2, k3⟩⟩
  · have g1 : (QV.b (decide ((d : Int) < (xs.length : Int))) (.val (.bool false))).holds Tryd.prog noSpecs noDoors [] := dq (by simp; omega)
    have hs := st26e xs.length ys.length e0 e1 (ints xs) (ints ys) d
    unfold rnd26 at hs
    obtain ⟨s1, k1, k2, k3⟩ := round_of (doors := noDoors) (ids := []) hs (by simp only [List.forall_mem_cons]; exact ⟨g1, by simp⟩) fl
    have hall : eqB xs ys = true := h2.1 (by rw [List.drop_eq_nil_of_le (by omega), List.drop_eq_nil_of_le (by omega)])
    rw [hall]
    exact ⟨noSpecs, 60, s1, SpecsOk.none, k1, .inr ⟨_, _, k2, k3⟩⟩

theorem blk26 (e0 e1 : Nat) (xs ys : List Int) (hl : xs.length = ys.length) (hb : xs.length ≤ 2 ^ 60) (B : Nat) :
    BlkOk Tryd.prog [] B 0 (loopG (.loop loop26) (door26 0) (I26 xs.length ys.length e0 e1 (ints xs) (ints ys) (0 : Nat)) (blkEnd 0 (endI (eqB xs ys)), fin26 e0 e1 (ints xs) (ints ys))) := by
  refine loopG_ok noNumP mixedP (fun d : Nat => I26 xs.length ys.length e0 e1 (ints xs) (ints ys) d) (fun d => d ≤ xs.length ∧ (xs.drop d = ys.drop d ↔ eqB xs ys = true)) (fun d => xs.length - d) (K := 2) (by cases eqB xs ys <;> (intro h; cases h)) ⟨Nat.zero_le _, by simp [eqB]⟩ (by decide) rfl rfl rfl ?_ (step26 e0 e1 xs ys hl hb B)
  intro id hid _
  have : id < 2 := hid
  have h3 : id = 0 ∨ id = 1 := by omega
  rcases h3 with rfl | rfl <;> rfl

theorem arun26 (e0 e1 : Nat) (xs ys : List Int) (hb : xs.length ≤ 2 ^ 60) : ∃ SP M', (∀ B, SpecsOk Tryd.prog [] B SP) ∧ Go.Am.arun Tryd.prog [] SP 60 26 [sl 0 xs.length, sl 1 ys.length] (startMem (blks26 e0 e1 (ints xs) (ints ys)) 2) = some (.bool (eqB xs ys), M') := by
  let g := loopG (.loop loop26) (door26 0) (I26 xs.length ys.length e0 e1 (ints xs) (ints ys) (0 : Nat)) (blkEnd 0 (endI (eqB xs ys)), fin26 e0 e1 (ints xs) (ints ys))
  by_cases hl : xs.length = ys.length
  · have hSP : ∀ B, SpecsOk Tryd.prog [] B (specsB [] [(0, g)]) := fun B => specsB_ok (fun p hp => by cases hp) (fun p hp => by
      simp only [List.mem_singleton] at hp; subst hp; exact blk26 e0 e1 xs ys hl hb B)
    have hbk : ∀ ex, blkEnd 0 (endI (eqB xs ys)) = ex → (QV.bk 0 (.loop loop26) 2 [] (some (I26 xs.length ys.length e0 e1 (ints xs) (ints ys) 0)) [ints xs, ints ys] true ex (fin26 e0 e1 (ints xs) (ints ys))).holds Tryd.prog (specsB [] [(0, g)]) door26 [] := fun ex hex => by
      subst hex
      refine ⟨I26 xs.length ys.length e0 e1 (ints xs) (ints ys) (0 : Nat), rfl, rfl, rfl, rfl, fun l hl => ?_, rfl⟩
      simp only [List.mem_cons, List.not_mem_nil, or_false] at hl
      rcases hl with rfl | rfl <;> exact renL_flat _ _ (ints_flat _)
    cases hE : eqB xs ys with
    | true =>
      have hx := r26b xs.length ys.length e0 e1 (ints xs) (ints ys) g
      unfold run26 at hx
      obtain ⟨M0, k1, _⟩ := run_of (look := fun _ => ()) Tryd.func26 body26 (by kernel_rfl) hx (.inr rfl) (by simp only [List.forall_mem_cons]; exact ⟨bb (by simp [hl]), hbk _ (by rw [hE]; rfl), by simp⟩)
      exact ⟨_, M0, hSP, k1⟩
    | false =>
      have hx := r26c xs.length ys.length e0 e1 (ints xs) (ints ys) g
      unfold run26 at hx
      obtain ⟨M0, k1, _⟩ := run_of (look := fun _ => ()) Tryd.func26 body26 (by kernel_rfl) hx (.inr rfl) (by simp only [List.forall_mem_cons]; exact ⟨bb (by simp [hl]), hbk _ (by rw [hE]; rfl), by simp⟩)
      exact ⟨_, M0, hSP, k1⟩
  · have hE : eqB xs ys = false := by unfold eqB; rw [decide_eq_false_iff_not]; intro h; exact hl (by rw [h])
    have hx := r26a xs.length ys.length e0 e1 (ints xs) (ints ys) (fun _ _ => none)
    unfold run26 at hx
    obtain ⟨M0, k1, _⟩ := run_of (look := fun _ => ()) Tryd.func26 body26 (by kernel_rfl) hx (.inr rfl) (by simp only [List.forall_mem_cons]; exact ⟨bb (by simp; omega), by simp⟩)
    rw [hE]
    exact ⟨_, M0, fun B => specsB_ok (fun p hp => (by cases hp)) (fun p hp => by
      simp only [List.mem_singleton] at hp; subst hp
      exact ⟨fun b s e s' h => (by cases h), fun b s e s' h => (by cases h)⟩), k1⟩

/- A row of numbers in a memory. -/
def intsAt (M : Mem) : Value → Option (List Int)
  | .slice none 0 0 => some []
  | .slice (some ⟨a, o, none⟩) n _ => match M.get a with
    | some A => match ints? ((A.cs.drop o).take n) with
      | some xs => bif Nat.beq xs.length n && Nat.ble (o + n) A.cs.length && Nat.beq A.esz 1 && Nat.ble n (2 ^ 60) then some xs else none
      | none => none
    | none => none
  | _ => none
def gI (args : List Value) (M : Mem) : Option (Value × Mem) :=
  match args with
  | [x, y] => match intsAt M x, intsAt M y with
    | some xs, some ys => some (.bool (eqB xs ys), M)
    | _, _ => none
  | _ => none

theorem of_intsAt {M : Mem} {v : Value} {xs : List Int} (h : intsAt M v = some xs) : (v = .slice none 0 0 ∧ xs = []) ∨ ∃ a o n c A, v = .slice (some ⟨a, o, none⟩) n c ∧ M.get a = some A ∧ xs.length = n ∧ o + n ≤ A.cs.length ∧ A.esz = 1 ∧ n ≤ 2 ^ 60 ∧ (∀ (j : Nat) u, (ints xs)[j]? = some u → A.cs[o + j]? = some u) := by
  unfold intsAt at h
  split at h
  · cases h; exact .inl ⟨rfl, rfl⟩
  · rename_i a o n c
    split at h <;> try (cases h; done)
    rename_i A hA
    split at h <;> try (cases h; done)
    rename_i zs hz
    cases hk : (Nat.beq zs.length n && Nat.ble (o + n) A.cs.length && Nat.beq A.esz 1 && Nat.ble n (2 ^ 60)) <;> rw [hk] at h <;> simp only [cond_true, cond_false] at h
    · cases h
    cases h
    simp only [Bool.and_eq_true] at hk
    obtain ⟨⟨⟨k1, k2⟩, k3⟩, k4⟩ := hk
    refine .inr ⟨a, o, n, c, A, rfl, hA, Nat.eq_of_beq_eq_true k1, Nat.le_of_ble_eq_true k2, Nat.eq_of_beq_eq_true k3, Nat.le_of_ble_eq_true k4, fun j u hu => ?_⟩
    rw [show ints xs = _ from (of_ints? hz).symm] at hu
    exact take_get hu
  · cases h

theorem ok26 (B : Nat) : SpecOk Tryd.prog [] B 26 gI := by
  have fin : ∀ {s1 s2 : Value} {l : List (Nat × ABlk)} {n : Nat} {F : List Fact} {b : Bool} {q : List QV}, run26 s1 s2 l n noSpecs F = some (.ret, (), some (.bool b), q) → (∀ p ∈ q, p.holds Tryd.prog noSpecs door26 []) →
      ∃ M0, Go.Am.arun Tryd.prog [] noSpecs 60 26 [s1, s2] (startMem l n) = some (.bool b, M0) := fun hx hq => by
    unfold run26 at hx
    obtain ⟨M0, k1, _⟩ := run_of (look := fun _ => ()) Tryd.func26 body26 (by kernel_rfl) hx (.inr rfl) hq
    exact ⟨M0, k1⟩
  refine SpecOk.ofStart noNumP mixedP fun args M v M' h => ?_
  unfold gI at h
  split at h <;> try (cases h; done)
  rename_i x y
  split at h <;> try (cases h; done)
  rename_i xs ys hx hy
  cases h
  rcases of_intsAt hx with ⟨rfl, rfl⟩ | ⟨a, o, n, c, A, rfl, x1, x2, x3, x4, x5, x6⟩
  · rcases of_intsAt hy with ⟨rfl, rfl⟩ | ⟨a2, o2, n2, c2, A2, rfl, y1, y2, y3, y4, y5, y6⟩
    · obtain ⟨M0, hrun⟩ := fin r26nn (by simp)
      exact ⟨[], 60, noSpecs, _, _, M0, [], none, fun B => SpecsOk.none, hrun, fun p hp => (by cases hp), fun φ φ0 args' hl ha => by rw [ha.of_flat rfl]; exact LRel.refl_flat _ _ rfl, rfl, rfl, rfl⟩
    · have hr : ∃ M0, Go.Am.arun Tryd.prog [] noSpecs 60 26 [.slice none 0 0, sl 0 n2] (startMem [] 1) = some (.bool (eqB [] ys), M0) := by
        by_cases h0 : n2 = 0
        · obtain ⟨M0, hrun⟩ := fin (r26ns_b n2) (by simp only [List.forall_mem_cons]; exact ⟨bb (by simp [h0]), by simp⟩)
          have : ys = [] := List.length_eq_zero_iff.1 (by omega)
          exact ⟨M0, by rw [hrun, this]; rfl⟩
        · obtain ⟨M0, hrun⟩ := fin (r26ns_a n2) (by simp only [List.forall_mem_cons]; exact ⟨bb (by simp; omega), by simp⟩)
          have : eqB [] ys = false := by unfold eqB; rw [decide_eq_false_iff_not]; intro h; rw [← h] at y2; simp at y2; omega
          exact ⟨M0, by rw [hrun, this]⟩
      obtain ⟨M0, hrun⟩ := hr
      refine ⟨[], 60, noSpecs, _, _, M0, [(a2, o2)], none, fun B => SpecsOk.none, hrun, fun p hp => (by cases hp), fun φ φ0 args' hl ha => ?_, rfl, rfl, rfl⟩
      cases ha with
      | cons g0 ha =>
        cases ha with
        | cons g1 ha =>
          cases ha
          have := g0.of_flat rfl
          subst this
          exact .cons (VRel.refl_flat _ _ rfl) (.cons (slice_lies hl rfl g1) .nil)
  · rcases of_intsAt hy with ⟨rfl, rfl⟩ | ⟨a2, o2, n2, c2, A2, rfl, y1, y2, y3, y4, y5, y6⟩
    · have hr : ∃ M0, Go.Am.arun Tryd.prog [] noSpecs 60 26 [sl 0 n, .slice none 0 0] (startMem [] 1) = some (.bool (eqB xs []), M0) := by
        by_cases h0 : n = 0
        · obtain ⟨M0, hrun⟩ := fin (r26sn_b n) (by simp only [List.forall_mem_cons]; exact ⟨bb (by simp [h0]), by simp [QV.holds, h0], by simp⟩)
          have : xs = [] := List.length_eq_zero_iff.1 (by omega)
          exact ⟨M0, by rw [hrun, this]; rfl⟩
        · obtain ⟨M0, hrun⟩ := fin (r26sn_a n) (by simp only [List.forall_mem_cons]; exact ⟨bb (by simp; omega), by simp⟩)
          have : eqB xs [] = false := by unfold eqB; rw [decide_eq_false_iff_not]; intro h; rw [h] at x2; simp at x2; omega
          exact ⟨M0, by rw [hrun, this]⟩
      obtain ⟨M0, hrun⟩ := hr
      refine ⟨[], 60, noSpecs, _, _, M0, [(a, o)], none, fun B => SpecsOk.none, hrun, fun p hp => (by cases hp), fun φ φ0 args' hl ha => ?_, rfl, rfl, rfl⟩
      cases ha with
      | cons g0 ha =>
        cases ha with
        | cons g1 ha =>
          cases ha
          have := g1.of_flat rfl
          subst this
          exact .cons (slice_lies hl rfl g0) (.cons (VRel.refl_flat _ _ rfl) .nil)
    · subst x2; subst y2
      obtain ⟨SP, M0, hSP, hrun⟩ := arun26 A.elem A2.elem xs ys x5
      refine ⟨blks26 A.elem A2.elem (ints xs) (ints ys), 60, SP, _, _, M0, [(a, o), (a2, o2)], none, hSP, hrun, fun p hp => ?_, fun φ φ0 args' hl ha => ?_, rfl, rfl, rfl⟩
      · simp only [blks26, List.mem_cons, List.not_mem_nil, or_false] at hp
        rcases hp with rfl | rfl
        · exact ⟨rfl, rfl, ints_flat xs, a, o, A, rfl, x1, rfl, x4, by simp only [ints_len]; exact x3, x6⟩
        · exact ⟨rfl, rfl, ints_flat ys, a2, o2, A2, rfl, y1, rfl, y4, by simp only [ints_len]; exact y3, y6⟩
      · cases ha with
        | cons g0 ha =>
          cases ha with
          | cons g1 ha =>
            cases ha
            exact .cons (slice_lies hl rfl g0) (.cons (slice_lies hl rfl g1) .nil)
end Go.Proofs.YtlmifmodnkhidaaDoor
