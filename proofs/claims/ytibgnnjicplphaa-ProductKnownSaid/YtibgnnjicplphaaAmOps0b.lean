/-
  THE ABSTRACT MACHINE: operations that look at no memory, one by one.
-/
import Derived.Test.YtibgnnjicplphaaAmOps0
namespace Go.Am
open Go

variable {P : Program} {GL : List Nat} {φ : Emb} {T : Tr Value} {n : Nat} {a : Act} {w : World}

theorem run_zeroValue' (t : TypeId) {i : TypeInfo} {z : Value} (h : P.info? t = some i) (hz : i.zero = some z) : (zeroValue t).run P w = .ok z w := by
  simp [zeroValue, run_typeInfo' t h, hz]

theorem evParts_sound (hg : GRel GL φ) (hT : TRel φ T n a.tmps) : ∀ {l : List (Nat × Operand)} {vs : List (Nat × Value)}, evParts GL T l = some vs →
    vs.map (·.1) = (l.map fun (i, x) => (i, a.eval x)).map (·.1) ∧ LRel φ (vs.map (·.2)) ((l.map fun (i, x) => (i, a.eval x)).map (·.2))
  | [], vs, h => by simp [evParts] at h; subst h; exact ⟨rfl, .nil⟩
  | (i, x) :: l, vs, h => by
    simp only [evParts] at h
    split at h
    · rename_i v vs' h1 h2
      simp at h; subst h
      have ih := evParts_sound hg hT h2
      exact ⟨by simp only [List.map_cons, ih.1], .cons (ev_sound hg hT h1) ih.2⟩
    · simp at h

theorem sizesOf_run : ∀ {fs : List Field} {pl : List (Nat × Nat)}, sizesOf P fs = some pl →
    (fs.mapM fun f => do pure (f.offset, ← sizeOf f.type) : Sem (List (Nat × Nat))).run P w = .ok pl w
  | [], pl, h => by simp [sizesOf] at h; subst h; simp
  | f :: fs, pl, h => by
    simp only [sizesOf] at h
    split at h
    · rename_i i r h1 h2
      simp at h; subst h
      simp [List.mapM_cons, run_sizeOf' f.type h1]
      have := sizesOf_run h2
      simp at this
      simp [this]
    · simp at h

theorem build_sound {t : TypeId} {ps : List (Nat × Value)} {ps' : Array (Nat × Value)} (h1 : ps.map (·.1) = ps'.toList.map (·.1)) (h2 : LRel φ (ps.map (·.2)) (ps'.toList.map (·.2)))
    {v : Value} (h : abuild P t ps = some v) : ∃ v', (Instr.build t ps').run P w = .ok v' w ∧ VRel φ v v' := by
  unfold abuild at h
  split at h
  · rename_i i d hi hd
    split at h
    · rename_i z hz
      cases hf : flat z <;> simp only [hf, cond_true, cond_false] at h
      · simp at h
      · have hzr := (VRel.refl_flat φ z hf).cells
        split at h
        · rename_i fields
          split at h
          · rename_i pl hpl
            split at h
            · rename_i cs hcs
              simp at h; subst h
              obtain ⟨cs', e1, e2⟩ := fill_sound (cells' := z.cells) h1 h2 hzr hcs
              refine ⟨.agg cs', ?_, by simpa using VRel.agg' e2⟩
              have hsz := sizesOf_run (w := w) hpl
              have hm : (fields.mapM fun f => do pure (f.offset, ← sizeOf f.type) : Sem (Array (Nat × Nat))).run P w = .ok pl.toArray w := by
                simp only [Array.mapM_eq_mapM_toList, Sem.run_map, hsz, Result.andThen_ok]
              simp only [Instr.build, Sem.run_bind, run_zeroValue' t hi hz, Result.andThen_ok, run_underlying' t hd, hm]
              simp [e1]
            · simp at h
          · simp at h
        · rename_i n elem
          split at h
          · rename_i e he
            split at h
            · rename_i cs hcs
              simp at h; subst h
              obtain ⟨cs', e1, e2⟩ := fill_sound (cells' := z.cells) h1 h2 hzr hcs
              refine ⟨.agg cs', ?_, by simpa using VRel.agg' e2⟩
              simp only [Instr.build, Sem.run_bind, run_zeroValue' t hi hz, Result.andThen_ok, run_underlying' t hd, run_sizeOf' elem he]
              simp [e1]
            · simp at h
          · simp at h
        · simp at h
    · simp at h
  · simp at h

theorem fieldAddr_sound {s : TypeId} {x x' v : Value} {f : Nat} (hx : VRel φ x x') (h : afieldAddr P s x f = some v) :
    ∃ v', (Instr.fieldAt s x' f).run P w = .ok v' w ∧ VRel φ v v' := by
  unfold afieldAddr at h
  split at h
  · rename_i fields ad hs
    obtain ⟨ad', rfl, h1, h2, e, he, hb, ho⟩ := hx.ptr_inv
    split at h
    · rename_i fl hfl
      split at h
      · rename_i i hi
        cases hz : Nat.beq i.size 0 <;> simp only [hz, cond_true, cond_false] at h
        · simp at h; subst h
          have hz' : i.size ≠ 0 := by intro e; simp [e] at hz
          refine ⟨.pointer (some (ad'.add fl.offset)), ?_, .ptr ⟨?_, ?_, e, ?_, ?_, ?_⟩⟩
          · simp [Instr.fieldAt, run_underlying' s hs, hfl, Instr.sureAddr, fieldPlace, run_sizeOf' fl.type hi, hz']
          all_goals (unfold Addr.add; split <;> simp_all <;> omega)
        · simp at h
      · simp at h
    · simp at h
  · simp at h

theorem field_sound {s : TypeId} {x x' v : Value} {f : Nat} (hx : VRel φ x x') (h : afield P s x f = some v) :
    ∃ v', (Instr.field s x' f).run P w = .ok v' w ∧ VRel φ v v' := by
  unfold afield at h
  split at h
  · rename_i fields cs hs
    obtain ⟨cs', rfl, hl⟩ := hx.agg_inv
    split at h
    · rename_i fl hfl
      obtain ⟨v', h1, h2⟩ := part_sound (P := P) (w := w) hl h
      exact ⟨v', by simp [Instr.field, run_underlying' s hs, hfl, asAgg, h1], h2⟩
    · simp at h
  · simp at h

theorem inB_spec {i : Int} {len : Nat} (h : inB i len = true) : 0 ≤ i ∧ i < len := by
  simpa [inB] using h

theorem ARel.add {a a' : Addr} (h : ARel φ a a') (k : Nat) : ARel φ (a.add k) (a'.add k) := by
  obtain ⟨h1, h2, e, he, hb, ho⟩ := h
  refine ⟨?_, ?_, e, ?_, ?_, ?_⟩ <;> (unfold Addr.add; split <;> simp_all <;> omega)

theorem indexAddr_sound {t : TypeId} {x x' ix ix' v : Value} (hx : VRel φ x x') (hi : VRel φ ix ix') (h : aindexAddr P t x ix = some v) :
    ∃ v', (Instr.indexAt t x' ix').run P w = .ok v' w ∧ VRel φ v v' := by
  unfold aindexAddr at h
  split at h
  · rename_i elem ad len cap k i ht
    rcases hx.slice_or with ⟨ad', cap', rfl, h1, h2, h3, h4, e, he, h5⟩ | ⟨_, _, hl0, _, _⟩
    case inr =>
      exfalso
      subst hl0
      split at h
      · have hb : inB i 0 = false := by
          cases hb : inB i 0
          · rfl
          · have := inB_spec hb
            omega
        rw [hb] at h
        simp at h
      · simp at h
    cases hi.int_inv
    split at h
    · rename_i ei hei
      cases hb : inB i len <;> simp only [hb, cond_true, cond_false] at h
      · simp at h
      · simp at h; subst h
        have hb' := inB_spec hb
        have hne : cap' ≠ 0 := by intro e; omega
        have hA : ARel φ ad ad' := by
          rcases h5 with h5 | h5
          · exact absurd h5 hne
          · exact ⟨h1, h2, e, he, h5.1, h5.2.1⟩
        exact ⟨.pointer (some (ad'.add (i.toNat * ei.size))), by simp [Instr.indexAt, asIntOf, run_underlying' t ht, run_sizeOf' elem hei, hb'], .ptr (hA.add _)⟩
    · simp at h
  · rename_i len elem ad k i ht
    obtain ⟨ad', rfl, hA⟩ := hx.ptr_inv
    cases hi.int_inv
    split at h
    · rename_i ei hei
      cases hb : inB i len <;> simp only [hb, cond_true, cond_false] at h
      · simp at h
      · simp at h; subst h
        have hb' := inB_spec hb
        exact ⟨.pointer (some (ad'.add (i.toNat * ei.size))), by simp [Instr.indexAt, asIntOf, run_underlying' t ht, Instr.sureAddr, run_sizeOf' elem hei, hb'], .ptr (hA.add _)⟩
    · simp at h
  · simp at h

theorem index_sound {t : TypeId} {x x' ix ix' v : Value} (hx : VRel φ x x') (hi : VRel φ ix ix') (h : aindex P t x ix = some v) :
    ∃ v', (Instr.index t x' ix').run P w = .ok v' w ∧ VRel φ v v' := by
  unfold aindex at h
  split at h
  · rename_i len elem cs k i ht
    obtain ⟨cs', rfl, hl⟩ := hx.agg_inv
    cases hi.int_inv
    split at h
    · rename_i ei hei
      cases hb : inB i len <;> simp only [hb, cond_true, cond_false] at h
      · simp at h
      · have hb' := inB_spec hb
        obtain ⟨v', h1, h2⟩ := part_sound (P := P) (w := w) hl h
        exact ⟨v', by simp [Instr.index, asIntOf, run_underlying' t ht, run_sizeOf' elem hei, hb', h1], h2⟩
    · simp at h
  · simp at h

theorem typeAssert_sound {x x' v : Value} {xT asserted : TypeId} {ok : Bool} (hx : VRel φ x x') (h : atypeAssert P x asserted ok = some v) :
    ∃ v', (Instr.typeAssert x' xT asserted ok).run P w = .ok v' w ∧ VRel φ v v' := by
  unfold atypeAssert at h
  split at h
  · simp at h
  · rename_i d t u hni hd
    obtain ⟨u', rfl, hu⟩ := hx.iface_inv
    cases hb : Nat.beq t asserted <;> simp only [hb, cond_true, cond_false] at h
    · have hne : t ≠ asserted := by intro e; simp [e] at hb
      cases ok <;> simp only [cond_true, cond_false] at h
      · simp at h
      · split at h
        · rename_i i hi
          split at h
          · rename_i z hz
            cases hf : flat z <;> simp only [hf, cond_true, cond_false] at h
            · simp at h
            · simp at h; subst h
              refine ⟨.tuple #[z, .bool false], ?_, VRel.refl_flat φ _ (by simp [flat, flatA, flatL, hf])⟩
              simp only [Instr.typeAssert, Sem.run_bind, run_underlying' asserted hd, Result.andThen_ok]
              cases d <;> first | exact absurd rfl (hni _) | simp [hne, run_zeroValue' asserted hi hz]
          · simp at h
        · simp at h
    · have he : t = asserted := Nat.eq_of_beq_eq_true hb
      subst he
      simp at h; subst h
      refine ⟨if ok then .tuple #[u', .bool true] else u', ?_, ?_⟩
      · simp only [Instr.typeAssert, Sem.run_bind, run_underlying' t hd, Result.andThen_ok]
        cases d <;> first | exact absurd rfl (hni _) | simp
      · cases ok
        · exact hu
        · exact .tuple (.cons hu (.cons (.leaf rfl) .nil))
  · rename_i d hni hd
    cases hx.of_flat rfl
    cases ok <;> simp only [cond_true, cond_false] at h
    · simp at h
    · split at h
      · rename_i i hi
        split at h
        · rename_i z hz
          cases hf : flat z <;> simp only [hf, cond_true, cond_false] at h
          · simp at h
          · simp at h; subst h
            refine ⟨.tuple #[z, .bool false], ?_, VRel.refl_flat φ _ (by simp [flat, flatA, flatL, hf])⟩
            simp only [Instr.typeAssert, Sem.run_bind, run_underlying' asserted hd, Result.andThen_ok]
            cases d <;> first | exact absurd rfl (hni _) | simp [run_zeroValue' asserted hi hz]
        · simp at h
      · simp at h
  · simp at h

theorem VRel.isNil {x x' : Value} (hx : VRel φ x x') : isNilV x' = isNilV x := by
  cases hx with
  | leaf h => rfl
  | _ => rfl

theorem aeql_fin {t : TypeId} {x' y' : Value} {r : Bool} (h : (Op.equal t x' y').run P w = .ok r w)
    (hb : binOp .eql t x' y' = (do pure (.bool (← Op.equal t x' y'))) ∧ binOp .neq t x' y' = (do pure (.bool (!(← Op.equal t x' y'))))) :
    (binOp .eql t x' y').run P w = .ok (.bool r) w ∧ (binOp .neq t x' y').run P w = .ok (.bool (!r)) w := by
  rw [hb.1, hb.2]; simp [h]

section eqs
variable {t : TypeId} (d : Nat)
theorem eqIn_ptr_nil {e : TypeId} (ht : P.underlying t = some (.pointer e)) (b : Option Addr) : (Op.equalIn (d + 1) t (.pointer none) (.pointer b)).run P w = .ok b.isNone w := by
  simp [Op.equalIn, run_underlying' t ht]
theorem eqIn_nil_ptr {e : TypeId} (ht : P.underlying t = some (.pointer e)) (b : Addr) : (Op.equalIn (d + 1) t (.pointer (some b)) (.pointer none)).run P w = .ok false w := by
  simp [Op.equalIn, run_underlying' t ht]
theorem eqIn_ptr_ptr {e : TypeId} (ht : P.underlying t = some (.pointer e)) {i : TypeInfo} (hi : P.info? e = some i) (hz : i.size ≠ 0) (a b : Addr) (hab : a.block = b.block) :
    (Op.equalIn (d + 1) t (.pointer (some a)) (.pointer (some b))).run P w = .ok (a == b) w := by
  simp [Op.equalIn, run_underlying' t ht, run_sizeOf' e hi, hz, sameAddr, hab]
theorem eqIn_iface_nil {ms : Array (String × TypeId)} (ht : P.underlying t = some (.interface ms)) (s : TypeId) (v : Value) : (Op.equalIn (d + 1) t (.iface s v) .nilIface).run P w = .ok false w := by
  simp [Op.equalIn, run_underlying' t ht]
theorem eqIn_nil_iface {ms : Array (String × TypeId)} (ht : P.underlying t = some (.interface ms)) (s : TypeId) (v : Value) : (Op.equalIn (d + 1) t .nilIface (.iface s v)).run P w = .ok false w := by
  simp [Op.equalIn, run_underlying' t ht]
theorem eqIn_iface_ne {ms : Array (String × TypeId)} (ht : P.underlying t = some (.interface ms)) (s u : TypeId) (hne : s ≠ u) (v x : Value) : (Op.equalIn (d + 1) t (.iface s v) (.iface u x)).run P w = .ok false w := by
  simp [Op.equalIn, run_underlying' t ht, hne]
theorem eqIn_slice_nil {e : TypeId} (ht : P.underlying t = some (.slice e)) (b : Option Addr) (l c l' c' : Nat) : (Op.equalIn (d + 1) t (.slice none l c) (.slice b l' c')).run P w = .ok b.isNone w := by
  simp [Op.equalIn, run_underlying' t ht]
theorem eqIn_nil_slice {e : TypeId} (ht : P.underlying t = some (.slice e)) (b : Addr) (l c l' c' : Nat) : (Op.equalIn (d + 1) t (.slice (some b) l c) (.slice none l' c')).run P w = .ok false w := by
  simp [Op.equalIn, run_underlying' t ht]
theorem eqIn_nil_func {ps rs : Array TypeId} {v : Bool} (ht : P.underlying t = some (.func ps rs v)) (f : Fn) (x y : Array Value) : (Op.equalIn (d + 1) t .nilFunc (.func f x y)).run P w = .ok false w := by
  simp [Op.equalIn, run_underlying' t ht]
theorem eqIn_func_nil {ps rs : Array TypeId} {v : Bool} (ht : P.underlying t = some (.func ps rs v)) (f : Fn) (x y : Array Value) : (Op.equalIn (d + 1) t (.func f x y) .nilFunc).run P w = .ok false w := by
  simp [Op.equalIn, run_underlying' t ht]
end eqs

theorem aeql_sound {t : TypeId} {x x' y y' : Value} {r : Bool} (hx : VRel φ x x') (hy : VRel φ y y') (h : aeql P t x y = some r) :
    ((binOp .eql t x' y').run P w = .ok (.bool r) w ∧ (binOp .neq t x' y').run P w = .ok (.bool (!r)) w) ∧ (∀ op X Y, (eqGuard op t X Y x' y').run P w = .ok () w) := by
  unfold aeql at h
  split at h
  case h_1 =>
    rename_i b ht
    cases hx.of_flat rfl
    cases b with
    | none => cases hy.of_flat rfl; simp at h; subst h; exact ⟨aeql_fin (eqIn_ptr_nil 9999 ht _) ⟨rfl, rfl⟩, fun op X Y => by simp [eqGuard]⟩
    | some b => obtain ⟨b', rfl, _⟩ := hy.ptr_inv; simp at h; subst h; exact ⟨aeql_fin (eqIn_ptr_nil 9999 ht _) ⟨rfl, rfl⟩, fun op X Y => by simp [eqGuard]⟩
  case h_2 =>
    rename_i ht
    obtain ⟨ad', rfl, _⟩ := hx.ptr_inv
    cases hy.of_flat rfl
    simp at h; subst h
    exact ⟨aeql_fin (eqIn_nil_ptr 9999 ht _) ⟨rfl, rfl⟩, fun op X Y => by simp [eqGuard]⟩
  case h_3 =>
    rename_i e ad bd ht
    obtain ⟨ad', rfl, h1, h2, e1, he1, hb1, ho1⟩ := hx.ptr_inv
    obtain ⟨bd', rfl, k1, k2, e2, he2, hb2, ho2⟩ := hy.ptr_inv
    split at h
    · rename_i i hi
      cases hz : Nat.beq i.size 0 <;> simp only [hz, cond_true, cond_false] at h
      · cases hb : Nat.beq ad.block bd.block <;> simp only [hb, cond_true, cond_false] at h
        · simp at h
        · have hbb : ad.block = bd.block := Nat.eq_of_beq_eq_true hb
          simp at h
          have hz' : i.size ≠ 0 := by intro e; simp [e] at hz
          rw [hbb, he2] at he1
          cases he1
          have hbk : ad'.block = bd'.block := by omega
          have hr : r = (ad' == bd') := by
            rw [← h]
            obtain ⟨b1, o1, s1⟩ := ad'
            obtain ⟨b2, o2, s2⟩ := bd'
            simp only at hbk h2 k2 ho1 ho2
            subst hbk h2 k2
            rw [Bool.eq_iff_iff]
            simp only [beq_iff_eq, Addr.mk.injEq, true_and, and_true, Nat.beq_eq]
            omega
          rw [hr]
          exact ⟨aeql_fin (eqIn_ptr_ptr 9999 ht hi hz' _ _ hbk) ⟨rfl, rfl⟩, fun op X Y => by simp [eqGuard]⟩
      · simp at h
    · simp at h
  case h_4 =>
    rename_i ht
    cases hx.of_flat rfl; obtain ⟨_, rfl, _⟩ := hy.iface_inv; simp at h; subst h; exact ⟨aeql_fin (eqIn_nil_iface 9999 ht _ _) ⟨rfl, rfl⟩, fun op X Y => by simp [eqGuard]⟩
  case h_5 =>
    rename_i ht
    cases hy.of_flat rfl; obtain ⟨_, rfl, _⟩ := hx.iface_inv; simp at h; subst h; exact ⟨aeql_fin (eqIn_iface_nil 9999 ht _ _) ⟨rfl, rfl⟩, fun op X Y => by simp [eqGuard]⟩
  case h_6 =>
    rename_i s v u x2 ht
    obtain ⟨_, rfl, _⟩ := hx.iface_inv
    obtain ⟨_, rfl, _⟩ := hy.iface_inv
    cases hb : Nat.beq s u <;> simp only [hb, cond_true, cond_false] at h
    · simp at h; subst h
      have hne : s ≠ u := by intro e; simp [e] at hb
      exact ⟨aeql_fin (eqIn_iface_ne 9999 ht _ _ hne _ _) ⟨rfl, rfl⟩, fun op X Y => by simp [eqGuard]⟩
    · simp at h
  case h_7 =>
    rename_i e l c b l2 c2 ht
    have hxn : ∃ l' c', x' = .slice none l' c' := by cases hx with | leaf h => exact ⟨_, _, rfl⟩
    obtain ⟨l', c', rfl⟩ := hxn
    cases b with
    | none =>
      have hyn : ∃ l' c', y' = .slice none l' c' := by cases hy with | leaf h => exact ⟨_, _, rfl⟩
      obtain ⟨l3, c3, rfl⟩ := hyn
      simp at h; subst h; exact ⟨aeql_fin (eqIn_slice_nil 9999 ht _ _ _ _ _) ⟨rfl, rfl⟩, fun op X Y => by simp [eqGuard]⟩
    | some b => obtain ⟨b', c', rfl⟩ := hy.slice_sh; simp at h; subst h; exact ⟨aeql_fin (eqIn_slice_nil 9999 ht _ _ _ _ _) ⟨rfl, rfl⟩, fun op X Y => by simp [eqGuard]⟩
  case h_8 =>
    rename_i ht
    have hyn : ∃ l' c', y' = .slice none l' c' := by cases hy with | leaf h => exact ⟨_, _, rfl⟩
    obtain ⟨l3, c3, rfl⟩ := hyn
    obtain ⟨b', c', rfl⟩ := hx.slice_sh
    simp at h; subst h; exact ⟨aeql_fin (eqIn_nil_slice 9999 ht _ _ _ _ _) ⟨rfl, rfl⟩, fun op X Y => by simp [eqGuard]⟩
  case h_9 =>
    rename_i ht
    cases hx.of_flat rfl
    obtain ⟨_, _, _, rfl⟩ := hy.func_sh
    simp at h; subst h; exact ⟨aeql_fin (eqIn_nil_func 9999 ht _ _ _) ⟨rfl, rfl⟩, fun op X Y => by simp [eqGuard]⟩
  case h_10 =>
    rename_i ht
    cases hy.of_flat rfl
    obtain ⟨_, _, _, rfl⟩ := hx.func_sh
    simp at h; subst h; exact ⟨aeql_fin (eqIn_func_nil 9999 ht _ _ _) ⟨rfl, rfl⟩, fun op X Y => by simp [eqGuard]⟩
  case h_11 => simp at h
end Go.Am
