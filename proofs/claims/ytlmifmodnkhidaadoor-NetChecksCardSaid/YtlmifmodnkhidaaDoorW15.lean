/-
  P101, NetChecks: for every network, every number, every row of numbers that is handed in the law answers true, and its arguments read as they did. No condition but the row's own.
-/
import Derived.Test.YtlmifmodnkhidaaDoorW14
open Go Go.Am Go.Proofs
namespace Go.Proofs.YtlmifmodnkhidaaDoor
set_option maxRecDepth 10000

def allB (N : Int) (es : List E) : Bool := decide (∀ e ∈ es, fitsP N e)
def checkB (N : Int) (es : List E) : Bool := decide (1 ≤ N ∧ N ≤ 60 ∧ es.length ≤ 400 ∧ ∀ e ∈ es, fitsP N e)
def endE : Bool → AExit
  | true => .exit 0
  | false => .ret
def okCheck (A : ABlk) (o ne : Nat) (es : List E) : Bool := Nat.beq es.length ne && Nat.ble (o + ne * 4) A.cs.length && Nat.beq A.esz 4 && Nat.ble es.length (2 ^ 30)
def gCheck (args : List Value) (M : Mem) : Option (Value × Mem) :=
  match args with
  | [.agg ⟨[.int .i64 N, .slice none 0 0]⟩] => some (.bool (checkB N []), M)
  | [.agg ⟨[.int .i64 N, .slice (some ⟨a, o, none⟩) ne _]⟩] =>
    match M.get a with
    | some A => match edges? ((A.cs.drop o).take (ne * 4)) with
      | some es => bif okCheck A o ne es then some (.bool (checkB N es), M) else none
      | none => none
    | none => none
  | _ => none
theorem c28 {SP : Specs} {D : Nat → Door} (hS : SP.calls 28 = some g28) (n : Int) (b : Bool) (h : (1 ≤ n ∧ n ≤ 60) ↔ b = true) : (QV.cr 28 [i64 n] [] (.val (.bool b))).holds Tryd.prog SP D [] := fun M _ => by
  refine acall_same ?_
  have : decide (1 ≤ n ∧ n ≤ 60) = b := by cases b <;> simp_all
  rw [← this]
  unfold onlySpecs viaSpecs
  rw [hS]
  rfl

noncomputable def SP16 : Specs := specs [(28, g28), (29, g29)]
theorem specs16 (B : Nat) : SpecsOk Tryd.prog [] B SP16 := specs_ok fun p hp => by
  simp only [List.mem_cons, List.not_mem_nil, or_false] at hp
  rcases hp with rfl | rfl <;> first | exact ok28 B | exact ok29 B
theorem step16 (N : Int) (e0 : Nat) (es : List E) (hes : es.length ≤ 2 ^ 30) (B : Nat) (d : Nat) (hd : d ≤ es.length ∧ ((∀ e ∈ es.drop d, fitsP N e) ↔ allB N es = true)) :
    ∃ SP n s1, SpecsOk Tryd.prog [] B SP ∧ s1.M.next ≤ 6 ∧
      ((∃ nx mv keep d', aexec Tryd.prog [] SP n loop16 (I16 N es.length e0 (ecOf es) d) = some (.normal, s1) ∧ View 2 nx mv keep [] [] s1 (I16 N es.length e0 (ecOf es) (d' : Nat)) ∧ (d' ≤ es.length ∧ ((∀ e ∈ es.drop d', fitsP N e) ↔ allB N es = true)) ∧ es.length - d' < es.length - d) ∨
        (∃ mv keep, aexec Tryd.prog [] SP n loop16 (I16 N es.length e0 (ecOf es) d) = some (endE (allB N es), s1) ∧ View 2 6 mv keep [] [] s1 (fin16 N es.length e0 (ecOf es)))) := by
  obtain ⟨h1, h2⟩ := hd
  have fl : ∀ l ∈ [ecOf es, boxC N es.length], renL mv16 l = some l := fun l hl => by
    simp only [List.mem_cons, List.not_mem_nil, or_false] at hl
    rcases hl with rfl | rfl
    · exact renL_flat _ _ (ecOf_flat es)
    · exact box_still _ _ _ rfl
  by_cases hlt : d < es.length
  · have hge : es[d]? = some es[d] := List.getElem?_eq_getElem hlt
    have hdrop : es.drop d = es[d] :: es.drop (d + 1) := List.drop_eq_getElem_cons hlt
    generalize es[d] = e at hge hdrop
    have hq1 : (QV.b (decide ((d : Int) < (es.length : Int))) (.val (.bool true))).holds Tryd.prog SP16 noDoors [] := dq (by simp; omega)
    have hib : (QV.ib (d : Int) es.length).holds Tryd.prog SP16 noDoors [] := by simp only [QV.holds, inB, Bool.and_eq_true, decide_eq_true_eq]; omega
    have hld : (QV.ld 31 (0 + ((d : Nat) : Int).toNat * 4) (some (ro (ecOf es) e0 4)) (.val (edgeV e.f e.t e.m e.c))).holds Tryd.prog SP16 noDoors [] := by
      obtain ⟨r, hr⟩ := ecOf_drop hge
      refine ⟨_, rfl, ?_⟩
      rw [ld31, Nat.zero_add, Int.toNat_natCast, hr]
      rfl
    have hcall : ∀ b, (fitsP N e ↔ b = true) → (QV.cr 29 [edgeV e.f e.t e.m e.c, i64 N] [] (.val (.bool b))).holds Tryd.prog SP16 noDoors [] := fun b hb M _ => by
      refine acall_same ?_
      have : decide (fitsP N e) = b := by cases b <;> simp_all
      rw [← this]
      rfl
    by_cases hf : fitsP N e
    · have hs := st16 N d e.f e.t e.m e.c es.length e0 (ecOf es)
      unfold rnd16 at hs
      obtain ⟨s1, k1, k2, k3⟩ := round_of (doors := noDoors) (ids := []) hs (by simp only [List.forall_mem_cons]; exact ⟨hq1, hib, hld, hcall true (by simp [hf]), by simp⟩) fl
      have hiv : IntKind.wrap .i64 ((d : Int) + 1) = ((d + 1 : Nat) : Int) := by rw [IntWalk.i64_in _ (by omega)]; omega
      rw [hiv] at k3
      refine ⟨SP16, 60, s1, specs16 B, k1, .inl ⟨2, _, _, d + 1, k2, k3, ⟨by omega, ?_⟩, by omega⟩⟩
      rw [← h2, hdrop]
      simp [hf]
    · have hs := st16b N d e.f e.t e.m e.c es.length e0 (ecOf es)
      unfold rnd16 at hs
      obtain ⟨s1, k1, k2, k3⟩ := round_of (doors := noDoors) (ids := []) hs (by simp only [List.forall_mem_cons]; exact ⟨hq1, hib, hld, hcall false (by simp [hf]), by simp⟩) fl
      have hall : allB N es = false := by
        rw [hdrop] at h2
        cases hb : allB N es with
        | false => rfl
        | true => exact absurd (h2.2 hb e (List.mem_cons_self ..)) hf
      rw [hall]
      exact ⟨SP16, 60, s1, specs16 B, k1, .inr ⟨_, _, k2, k3⟩⟩
  · have hq1 : (QV.b (decide ((d : Int) < (es.length : Int))) (.val (.bool false))).holds Tryd.prog SP16 noDoors [] := dq (by simp; omega)
    have hs := st16e N d es.length e0 (ecOf es)
    unfold rnd16 at hs
    obtain ⟨s1, k1, k2, k3⟩ := round_of (doors := noDoors) (ids := []) hs (by simp only [List.forall_mem_cons]; exact ⟨hq1, by simp⟩) fl
    have hall : allB N es = true := h2.1 (by rw [List.drop_eq_nil_of_le (by omega)]; simp)
    rw [hall]
    exact ⟨SP16, 60, s1, specs16 B, k1, .inr ⟨_, _, k2, k3⟩⟩

theorem blk16 (N : Int) (e0 : Nat) (es : List E) (hes : es.length ≤ 2 ^ 30) (B : Nat) :
    BlkOk Tryd.prog [] B 0 (loopG (.loop loop16) (door16 0) (I16 N es.length e0 (ecOf es) (0 : Nat)) (blkEnd 0 (endE (allB N es)), fin16 N es.length e0 (ecOf es))) := by
  refine loopG_ok noNumP mixedP (fun d : Nat => I16 N es.length e0 (ecOf es) d) (fun d => d ≤ es.length ∧ ((∀ e ∈ es.drop d, fitsP N e) ↔ allB N es = true)) (fun d => es.length - d) (K := 6) (by cases allB N es <;> (intro h; cases h)) ⟨Nat.zero_le _, by simp [allB]⟩ (by decide) rfl rfl rfl ?_ (step16 N e0 es hes B)
  intro id hid _
  have : id < 2 := hid
  have h3 : id = 0 ∨ id = 1 := by omega
  rcases h3 with rfl | rfl <;> rfl

theorem arun16 (N : Int) (e0 : Nat) (es : List E) (hes : es.length ≤ 2 ^ 30) : ∃ SP M', (∀ B, SpecsOk Tryd.prog [] B SP) ∧ Go.Am.arun Tryd.prog [] SP 60 16 [.agg ⟨[i64 N, sl 0 es.length]⟩] (startMem [(0, ro (ecOf es) e0 4)] 1) = some (.bool (checkB N es), M') := by
  let g := loopG (.loop loop16) (door16 0) (I16 N es.length e0 (ecOf es) (0 : Nat)) (blkEnd 0 (endE (allB N es)), fin16 N es.length e0 (ecOf es))
  have hSP : ∀ B, SpecsOk Tryd.prog [] B (specsB [(28, g28), (29, g29)] [(0, g)]) := fun B => specsB_ok (fun p hp => by
      simp only [List.mem_cons, List.not_mem_nil, or_false] at hp
      rcases hp with rfl | rfl <;> first | exact ok28 B | exact ok29 B) (fun p hp => by
      simp only [List.mem_singleton] at hp; subst hp; exact blk16 N e0 es hes B)
  refine ⟨specsB [(28, g28), (29, g29)] [(0, g)], ?_⟩
  have hbk : ∀ ex, blkEnd 0 (endE (allB N es)) = ex → (QV.bk 0 (.loop loop16) 2 [] (some (I16 N es.length e0 (ecOf es) 0)) [ecOf es, boxC N es.length] true ex (fin16 N es.length e0 (ecOf es))).holds Tryd.prog (specsB [(28, g28), (29, g29)] [(0, g)]) door16 [] := fun ex hex => by
    subst hex
    refine ⟨I16 N es.length e0 (ecOf es) (0 : Nat), rfl, rfl, rfl, rfl, fun l hl => ?_, rfl⟩
    simp only [List.mem_cons, List.not_mem_nil, or_false] at hl
    rcases hl with rfl | rfl
    · exact renL_flat _ _ (ecOf_flat es)
    · exact box_still _ _ _ rfl
  have fin : ∀ {F : List Fact} {b : Bool} {q : List QV}, run16 N (sl 0 es.length) [(0, ro (ecOf es) e0 4)] 1 (specsB [(28, g28), (29, g29)] [(0, g)]) F = some (.ret, (), some (.bool b), q) →
      (∀ p ∈ q, p.holds Tryd.prog (specsB [(28, g28), (29, g29)] [(0, g)]) door16 []) → checkB N es = b → ∃ M', (∀ B, SpecsOk Tryd.prog [] B (specsB [(28, g28), (29, g29)] [(0, g)])) ∧ Go.Am.arun Tryd.prog [] (specsB [(28, g28), (29, g29)] [(0, g)]) 60 16 [.agg ⟨[i64 N, sl 0 es.length]⟩] (startMem [(0, ro (ecOf es) e0 4)] 1) = some (.bool (checkB N es), M') := fun hx hq hb => by
    unfold run16 at hx
    obtain ⟨M0, k1, _⟩ := run_of (look := fun _ => ()) Tryd.func16 body16 (by kernel_rfl) hx (.inr rfl) hq
    exact ⟨M0, hSP, by rw [hb]; exact k1⟩
  have hall : allB N es = true ↔ ∀ e ∈ es, fitsP N e := by simp [allB]
  by_cases h1 : 1 ≤ N ∧ N ≤ 60
  · by_cases h2 : (es.length : Int) > 400
    · exact fin (r16b N es.length e0 (ecOf es) g) (by simp only [List.forall_mem_cons]; exact ⟨c28 rfl N true (by simp [h1]), db (by simp; omega), by simp⟩) (by unfold checkB; rw [decide_eq_false_iff_not]; omega)
    · cases hA : allB N es with
      | true => exact fin (r16c N es.length e0 (ecOf es) g) (by simp only [List.forall_mem_cons]; exact ⟨c28 rfl N true (by simp [h1]), db (by simp; omega), hbk _ (by rw [hA]; rfl), by simp⟩) (by unfold checkB; rw [decide_eq_true_iff]; exact ⟨h1.1, h1.2, by omega, hall.1 hA⟩)
      | false => exact fin (r16d N es.length e0 (ecOf es) g) (by simp only [List.forall_mem_cons]; exact ⟨c28 rfl N true (by simp [h1]), db (by simp; omega), hbk _ (by rw [hA]; rfl), by simp⟩) (by unfold checkB; rw [decide_eq_false_iff_not]; intro hh; rw [hall.2 hh.2.2.2] at hA; cases hA)
  · exact fin (r16a N es.length e0 (ecOf es) g) (by simp only [List.forall_mem_cons]; exact ⟨c28 rfl N false (by simpa using h1), by simp⟩) (by unfold checkB; rw [decide_eq_false_iff_not]; omega)

theorem arun16n (N : Int) : ∃ M', Go.Am.arun Tryd.prog [] SP16 60 16 [.agg ⟨[i64 N, .slice none 0 0]⟩] (startMem [] 0) = some (.bool (checkB N []), M') := by
  have fin : ∀ {F : List Fact} {b : Bool} {q : List QV}, run16 N (.slice none 0 0) [] 0 SP16 F = some (.ret, (), some (.bool b), q) →
      (∀ p ∈ q, p.holds Tryd.prog SP16 door16 []) → checkB N [] = b → ∃ M', Go.Am.arun Tryd.prog [] SP16 60 16 [.agg ⟨[i64 N, .slice none 0 0]⟩] (startMem [] 0) = some (.bool (checkB N []), M') := fun hx hq hb => by
    unfold run16 at hx
    obtain ⟨M0, k1, _⟩ := run_of (look := fun _ => ()) Tryd.func16 body16 (by kernel_rfl) hx (.inr rfl) hq
    exact ⟨M0, by rw [hb]; exact k1⟩
  by_cases h1 : 1 ≤ N ∧ N ≤ 60
  · exact fin (r16m N) (by simp only [List.forall_mem_cons]; exact ⟨c28 rfl N true (by simp [h1]), by simp⟩) (by unfold checkB; rw [decide_eq_true_iff]; exact ⟨h1.1, h1.2, by simp, by simp⟩)
  · exact fin (r16n N) (by simp only [List.forall_mem_cons]; exact ⟨c28 rfl N false (by simpa using h1), by simp⟩) (by unfold checkB; rw [decide_eq_false_iff_not]; omega)

theorem ok16 (B : Nat) : SpecOk Tryd.prog [] B 16 gCheck := by
  refine SpecOk.ofStart noNumP mixedP fun args M v M' h => ?_
  unfold gCheck at h
  split at h <;> try (cases h; done)
  · rename_i N
    cases h
    obtain ⟨M0, hrun⟩ := arun16n N
    refine ⟨[], 60, SP16, _, _, M0, [], none, specs16, hrun, fun p hp => (by cases hp), fun φ φ0 args' hl ha => ?_, rfl, rfl, rfl⟩
    rw [ha.of_flat rfl]
    exact LRel.refl_flat _ _ rfl
  · rename_i N a o ne ca
    split at h <;> try (cases h; done)
    rename_i A hA
    split at h <;> try (cases h; done)
    rename_i es hes
    cases hk : okCheck A o ne es <;> rw [hk] at h <;> simp only [cond_true, cond_false] at h
    · cases h
    unfold okCheck at hk
    simp only [Bool.and_eq_true] at hk
    obtain ⟨⟨⟨k1, k2⟩, k3⟩, k4⟩ := hk
    have k1 := Nat.eq_of_beq_eq_true k1
    have k2 := Nat.le_of_ble_eq_true k2
    have k3 := Nat.eq_of_beq_eq_true k3
    have k4 := Nat.le_of_ble_eq_true k4
    subst k1
    cases h
    have hA' := of_edges? hes
    obtain ⟨SP, M0, hSP, hrun⟩ := arun16 N A.elem es k4
    refine ⟨[(0, ro (ecOf es) A.elem 4)], 60, SP, _, _, M0, [(a, o)], none, hSP, hrun, fun p hp => ?_, fun φ φ0 args' hl ha => ?_, rfl, rfl, rfl⟩
    · simp only [List.mem_singleton] at hp
      subst hp
      refine ⟨rfl, rfl, ecOf_flat es, a, o, A, rfl, hA, rfl, k3, by simp only [ecOf_len]; exact k2, fun j u hu => ?_⟩
      rw [show ecOf es = _ from hA'.symm] at hu
      exact take_get hu
    · cases ha with
      | cons h0 ha =>
        cases ha
        obtain ⟨x', rfl, g⟩ := h0.agg_inv
        obtain ⟨x'⟩ := x'
        cases g with
        | cons g0 g =>
          cases g with
          | cons g1 g =>
            cases g
            obtain rfl := g0.int_inv
            exact .cons (.agg (.cons (VRel.refl_flat _ _ rfl) (.cons (slice_lies hl rfl g1) .nil))) .nil

noncomputable def SP17 : Specs := specs [(30, g30)]
theorem specs17 (B : Nat) : SpecsOk Tryd.prog [] B SP17 := specs_ok fun p hp => by
  simp only [List.mem_cons, List.not_mem_nil, or_false] at hp
  subst hp; exact ok30 B
theorem step17 (N : Int) (e0 : Nat) (es : List E) (hes : es.length ≤ 2 ^ 30) (B : Nat) (d : Nat) (hd : d ≤ es.length ∧ ((∀ e ∈ es.drop d, fitsP N e) ↔ allB N es = true)) :
    ∃ SP n s1, SpecsOk Tryd.prog [] B SP ∧ s1.M.next ≤ 6 ∧
      ((∃ nx mv keep d', aexec Tryd.prog [] SP n loop17 (I17 N es.length e0 (ecOf es) d) = some (.normal, s1) ∧ View 2 nx mv keep [] [] s1 (I17 N es.length e0 (ecOf es) (d' : Nat)) ∧ (d' ≤ es.length ∧ ((∀ e ∈ es.drop d', fitsP N e) ↔ allB N es = true)) ∧ es.length - d' < es.length - d) ∨
        (∃ mv keep, aexec Tryd.prog [] SP n loop17 (I17 N es.length e0 (ecOf es) d) = some (endE (allB N es), s1) ∧ View 2 6 mv keep [] [] s1 (fin17 N es.length e0 (ecOf es)))) := by
  obtain ⟨h1, h2⟩ := hd
  have fl : ∀ l ∈ [ecOf es, boxC N es.length], renL mv16 l = some l := fun l hl => by
    simp only [List.mem_cons, List.not_mem_nil, or_false] at hl
    rcases hl with rfl | rfl
    · exact renL_flat _ _ (ecOf_flat es)
    · exact box_still _ _ _ rfl
  by_cases hlt : d < es.length
  · have hge : es[d]? = some es[d] := List.getElem?_eq_getElem hlt
    have hdrop : es.drop d = es[d] :: es.drop (d + 1) := List.drop_eq_getElem_cons hlt
    generalize es[d] = e at hge hdrop
    have hq1 : (QV.b (decide ((d : Int) < (es.length : Int))) (.val (.bool true))).holds Tryd.prog SP17 noDoors [] := dq (by simp; omega)
    have hib : (QV.ib (d : Int) es.length).holds Tryd.prog SP17 noDoors [] := by simp only [QV.holds, inB, Bool.and_eq_true, decide_eq_true_eq]; omega
    have hld : (QV.ld 31 (0 + ((d : Nat) : Int).toNat * 4) (some (ro (ecOf es) e0 4)) (.val (edgeV e.f e.t e.m e.c))).holds Tryd.prog SP17 noDoors [] := by
      obtain ⟨r, hr⟩ := ecOf_drop hge
      refine ⟨_, rfl, ?_⟩
      rw [ld31, Nat.zero_add, Int.toNat_natCast, hr]
      rfl
    have hcall : ∀ b, (fitsP N e ↔ b = true) → (QV.cr 30 [edgeV e.f e.t e.m e.c, i64 N] [] (.val (.bool b))).holds Tryd.prog SP17 noDoors [] := fun b hb M _ => by
      refine acall_same ?_
      have : decide (fitsP N e) = b := by cases b <;> simp_all
      rw [← this]
      rfl
    by_cases hf : fitsP N e
    · have hs := st17 N d e.f e.t e.m e.c es.length e0 (ecOf es)
      unfold rnd17 at hs
      obtain ⟨s1, k1, k2, k3⟩ := round_of (doors := noDoors) (ids := []) hs (by simp only [List.forall_mem_cons]; exact ⟨hq1, hib, hld, hcall true (by simp [hf]), by simp⟩) fl
      have hiv : IntKind.wrap .i64 ((d : Int) + 1) = ((d + 1 : Nat) : Int) := by rw [IntWalk.i64_in _ (by omega)]; omega
      rw [hiv] at k3
      refine ⟨SP17, 60, s1, specs17 B, k1, .inl ⟨2, _, _, d + 1, k2, k3, ⟨by omega, ?_⟩, by omega⟩⟩
      rw [← h2, hdrop]
      simp [hf]
    · have hs := st17b N d e.f e.t e.m e.c es.length e0 (ecOf es)
      unfold rnd17 at hs
      obtain ⟨s1, k1, k2, k3⟩ := round_of (doors := noDoors) (ids := []) hs (by simp only [List.forall_mem_cons]; exact ⟨hq1, hib, hld, hcall false (by simp [hf]), by simp⟩) fl
      have hall : allB N es = false := by
        rw [hdrop] at h2
        cases hb : allB N es with
        | false => rfl
        | true => exact absurd (h2.2 hb e (List.mem_cons_self ..)) hf
      rw [hall]
      exact ⟨SP17, 60, s1, specs17 B, k1, .inr ⟨_, _, k2, k3⟩⟩
  · have hq1 : (QV.b (decide ((d : Int) < (es.length : Int))) (.val (.bool false))).holds Tryd.prog SP17 noDoors [] := dq (by simp; omega)
    have hs := st17e N d es.length e0 (ecOf es)
    unfold rnd17 at hs
    obtain ⟨s1, k1, k2, k3⟩ := round_of (doors := noDoors) (ids := []) hs (by simp only [List.forall_mem_cons]; exact ⟨hq1, by simp⟩) fl
    have hall : allB N es = true := h2.1 (by rw [List.drop_eq_nil_of_le (by omega)]; simp)
    rw [hall]
    exact ⟨SP17, 60, s1, specs17 B, k1, .inr ⟨_, _, k2, k3⟩⟩

theorem blk17 (N : Int) (e0 : Nat) (es : List E) (hes : es.length ≤ 2 ^ 30) (B : Nat) :
    BlkOk Tryd.prog [] B 0 (loopG (.loop loop17) (door17 0) (I17 N es.length e0 (ecOf es) (0 : Nat)) (blkEnd 0 (endE (allB N es)), fin17 N es.length e0 (ecOf es))) := by
  refine loopG_ok noNumP mixedP (fun d : Nat => I17 N es.length e0 (ecOf es) d) (fun d => d ≤ es.length ∧ ((∀ e ∈ es.drop d, fitsP N e) ↔ allB N es = true)) (fun d => es.length - d) (K := 6) (by cases allB N es <;> (intro h; cases h)) ⟨Nat.zero_le _, by simp [allB]⟩ (by decide) rfl rfl rfl ?_ (step17 N e0 es hes B)
  intro id hid _
  have : id < 2 := hid
  have h3 : id = 0 ∨ id = 1 := by omega
  rcases h3 with rfl | rfl <;> rfl

theorem arun17 (N : Int) (e0 : Nat) (es : List E) (hes : es.length ≤ 2 ^ 30) : ∃ SP M', (∀ B, SpecsOk Tryd.prog [] B SP) ∧ Go.Am.arun Tryd.prog [] SP 60 17 [.agg ⟨[i64 N, sl 0 es.length]⟩] (startMem [(0, ro (ecOf es) e0 4)] 1) = some (.bool (checkB N es), M') := by
  let g := loopG (.loop loop17) (door17 0) (I17 N es.length e0 (ecOf es) (0 : Nat)) (blkEnd 0 (endE (allB N es)), fin17 N es.length e0 (ecOf es))
  have hSP : ∀ B, SpecsOk Tryd.prog [] B (specsB [(30, g30)] [(0, g)]) := fun B => specsB_ok (fun p hp => by
      simp only [List.mem_cons, List.not_mem_nil, or_false] at hp
      subst hp; exact ok30 B) (fun p hp => by
      simp only [List.mem_singleton] at hp; subst hp; exact blk17 N e0 es hes B)
  refine ⟨specsB [(30, g30)] [(0, g)], ?_⟩
  have hbk : ∀ ex, blkEnd 0 (endE (allB N es)) = ex → (QV.bk 0 (.loop loop17) 2 [] (some (I17 N es.length e0 (ecOf es) 0)) [ecOf es, boxC N es.length] true ex (fin17 N es.length e0 (ecOf es))).holds Tryd.prog (specsB [(30, g30)] [(0, g)]) door17 [] := fun ex hex => by
    subst hex
    refine ⟨I17 N es.length e0 (ecOf es) (0 : Nat), rfl, rfl, rfl, rfl, fun l hl => ?_, rfl⟩
    simp only [List.mem_cons, List.not_mem_nil, or_false] at hl
    rcases hl with rfl | rfl
    · exact renL_flat _ _ (ecOf_flat es)
    · exact box_still _ _ _ rfl
  have fin : ∀ {F : List Fact} {b : Bool} {q : List QV}, run17 N (sl 0 es.length) [(0, ro (ecOf es) e0 4)] 1 (specsB [(30, g30)] [(0, g)]) F = some (.ret, (), some (.bool b), q) →
      (∀ p ∈ q, p.holds Tryd.prog (specsB [(30, g30)] [(0, g)]) door17 []) → checkB N es = b → ∃ M', (∀ B, SpecsOk Tryd.prog [] B (specsB [(30, g30)] [(0, g)])) ∧ Go.Am.arun Tryd.prog [] (specsB [(30, g30)] [(0, g)]) 60 17 [.agg ⟨[i64 N, sl 0 es.length]⟩] (startMem [(0, ro (ecOf es) e0 4)] 1) = some (.bool (checkB N es), M') := fun hx hq hb => by
    unfold run17 at hx
    obtain ⟨M0, k1, _⟩ := run_of (look := fun _ => ()) Tryd.func17 body17 (by kernel_rfl) hx (.inr rfl) hq
    exact ⟨M0, hSP, by rw [hb]; exact k1⟩
  have hall : allB N es = true ↔ ∀ e ∈ es, fitsP N e := by simp [allB]
  by_cases h1 : N < 1
  · exact fin (r17a N es.length e0 (ecOf es) g) (by simp [QV.holds, h1]) (by unfold checkB; rw [decide_eq_false_iff_not]; omega)
  · by_cases h0 : N > 60
    · exact fin (r17b N es.length e0 (ecOf es) g) (by simp [QV.holds, h1, h0]) (by unfold checkB; rw [decide_eq_false_iff_not]; omega)
    · by_cases h2 : (es.length : Int) > 400
      · exact fin (r17c N es.length e0 (ecOf es) g) (by simp [QV.holds, h1, h0]; omega) (by unfold checkB; rw [decide_eq_false_iff_not]; omega)
      · cases hA : allB N es with
        | true => exact fin (r17d N es.length e0 (ecOf es) g) (by simp only [List.forall_mem_cons]; refine ⟨?_, ?_, ?_, ?_, ?_, ?_, ?_, ?_, ?_, ?_, hbk _ (by rw [hA]; rfl), by simp⟩ <;> (apply db; simp; omega)) (by unfold checkB; rw [decide_eq_true_iff]; exact ⟨by omega, by omega, by omega, hall.1 hA⟩)
        | false => exact fin (r17e N es.length e0 (ecOf es) g) (by simp only [List.forall_mem_cons]; refine ⟨?_, ?_, ?_, ?_, ?_, ?_, ?_, ?_, ?_, ?_, hbk _ (by rw [hA]; rfl), by simp⟩ <;> (apply db; simp; omega)) (by unfold checkB; rw [decide_eq_false_iff_not]; intro hh; rw [hall.2 hh.2.2.2] at hA; cases hA)

theorem arun17n (N : Int) : ∃ M', Go.Am.arun Tryd.prog [] SP17 60 17 [.agg ⟨[i64 N, .slice none 0 0]⟩] (startMem [] 0) = some (.bool (checkB N []), M') := by
  have fin : ∀ {F : List Fact} {b : Bool} {q : List QV}, run17 N (.slice none 0 0) [] 0 SP17 F = some (.ret, (), some (.bool b), q) →
      (∀ p ∈ q, p.holds Tryd.prog SP17 door17 []) → checkB N [] = b → ∃ M', Go.Am.arun Tryd.prog [] SP17 60 17 [.agg ⟨[i64 N, .slice none 0 0]⟩] (startMem [] 0) = some (.bool (checkB N []), M') := fun hx hq hb => by
    unfold run17 at hx
    obtain ⟨M0, k1, _⟩ := run_of (look := fun _ => ()) Tryd.func17 body17 (by kernel_rfl) hx (.inr rfl) hq
    exact ⟨M0, by rw [hb]; exact k1⟩
  by_cases h1 : N < 1
  · exact fin (r17n N) (by simp [QV.holds, h1]) (by unfold checkB; rw [decide_eq_false_iff_not]; omega)
  · by_cases h0 : N > 60
    · exact fin (r17o N) (by simp [QV.holds, h1, h0]) (by unfold checkB; rw [decide_eq_false_iff_not]; omega)
    · exact fin (r17m N) (by simp [QV.holds, h1, h0]) (by unfold checkB; rw [decide_eq_true_iff]; exact ⟨by omega, by omega, by simp, by simp⟩)

theorem ok17 (B : Nat) : SpecOk Tryd.prog [] B 17 gCheck := by
  refine SpecOk.ofStart noNumP mixedP fun args M v M' h => ?_
  unfold gCheck at h
  split at h <;> try (cases h; done)
  · rename_i N
    cases h
    obtain ⟨M0, hrun⟩ := arun17n N
    refine ⟨[], 60, SP17, _, _, M0, [], none, specs17, hrun, fun p hp => (by cases hp), fun φ φ0 args' hl ha => ?_, rfl, rfl, rfl⟩
    rw [ha.of_flat rfl]
    exact LRel.refl_flat _ _ rfl
  · rename_i N a o ne ca
    split at h <;> try (cases h; done)
    rename_i A hA
    split at h <;> try (cases h; done)
    rename_i es hes
    cases hk : okCheck A o ne es <;> rw [hk] at h <;> simp only [cond_true, cond_false] at h
    · cases h
    unfold okCheck at hk
    simp only [Bool.and_eq_true] at hk
    obtain ⟨⟨⟨k1, k2⟩, k3⟩, k4⟩ := hk
    have k1 := Nat.eq_of_beq_eq_true k1
    have k2 := Nat.le_of_ble_eq_true k2
    have k3 := Nat.eq_of_beq_eq_true k3
    have k4 := Nat.le_of_ble_eq_true k4
    subst k1
    cases h
    have hA' := of_edges? hes
    obtain ⟨SP, M0, hSP, hrun⟩ := arun17 N A.elem es k4
    refine ⟨[(0, ro (ecOf es) A.elem 4)], 60, SP, _, _, M0, [(a, o)], none, hSP, hrun, fun p hp => ?_, fun φ φ0 args' hl ha => ?_, rfl, rfl, rfl⟩
    · simp only [List.mem_singleton] at hp
      subst hp
      refine ⟨rfl, rfl, ecOf_flat es, a, o, A, rfl, hA, rfl, k3, by simp only [ecOf_len]; exact k2, fun j u hu => ?_⟩
      rw [show ecOf es = _ from hA'.symm] at hu
      exact take_get hu
    · cases ha with
      | cons h0 ha =>
        cases ha
        obtain ⟨x', rfl, g⟩ := h0.agg_inv
        obtain ⟨x'⟩ := x'
        cases g with
        | cons g0 g =>
          cases g with
          | cons g1 g =>
            cases g
            obtain rfl := g0.int_inv
            exact .cons (.agg (.cons (VRel.refl_flat _ _ rfl) (.cons (slice_lies hl rfl g1) .nil))) .nil
end Go.Proofs.YtlmifmodnkhidaaDoor
