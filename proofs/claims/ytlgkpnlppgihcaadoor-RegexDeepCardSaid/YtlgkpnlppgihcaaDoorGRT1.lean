/-
  RegexDeep: thirty brackets in one another are read, one more is refused at its place; whatever the argument. Conditions: none beyond the card's own.
-/
import Derived.Test.YtlgkpnlppgihcaaDoorRB4
import Derived.Test.YtlgkpnlppgihcaaDoorAmQ
open Go Go.Am Go.Proofs
namespace Go.Proofs.YtlgkpnlppgihcaaDoor
set_option maxRecDepth 100000

/- (*parser).take -/
noncomputable def B50 : Code := Tryd.f50.body.get!
theorem body50 : Tryd.f50.body = some B50 := by kernel_rfl
noncomputable def blkP (s : ByteArray) (at' : Int) (o ln cp : Nat) : ABlk := ⟨[.string s, i64 at', .slice (some ⟨1, o, none⟩) ln cp], 70, 3, 0, true⟩
noncomputable def run50 (s : ByteArray) (a c : Int) (o ln cp : Nat) (F : List Fact) :=
  (xexec Tryd.prog [] noSpecs 60 B50 ⟨initT [pt 0 0, .int .u8 c] 0 .nil, Tryd.f50.ntmps, startMem [(0, blkP s a o ln cp)] 2⟩ F 0).map (fun r => (r.1.1, r.1.2.M, aresults Tryd.prog Tryd.f50 r.1.2, r.2.2.2.map (view noDoors [])))

theorem t50a (s : ByteArray) (a c : Int) (o ln cp : Nat) : run50 s a c o ln cp [tru 24, tru 26, tru 28, tru 30, tru 32, tru 34, tru 36, tru 38, tru 40, tru 42, tru 44, tru 47] = some (.ret, startMem [(0, blkP s a o ln cp)] 2, some (.bool false), [.b (a == (s.size : Int)) (.val (.bool true)), .b (a == (s.size : Int)) (.val (.bool true)), .b (a == (s.size : Int)) (.val (.bool true)), .b (a == (s.size : Int)) (.val (.bool true)), .b (a == (s.size : Int)) (.val (.bool true)), .b (a == (s.size : Int)) (.val (.bool true)), .b (a == (s.size : Int)) (.val (.bool true)), .b (a == (s.size : Int)) (.val (.bool true)), .b (a == (s.size : Int)) (.val (.bool true)), .b (a == (s.size : Int)) (.val (.bool true)), .b (a == (s.size : Int)) (.val (.bool true)), .b (a == (s.size : Int)) (.val (.bool true))]) := by kernel_rfl
theorem t50b (s : ByteArray) (a c x : Int) (o ln cp : Nat) : run50 s a c o ln cp [fls 24, fls 26, fls 28, fls 30, fls 32, fls 34, fls 36, fls 38, fls 40, got 41 (.int .u8 x), fls 42, fls 44, fls 47, tru 48] = some (.ret, startMem [(0, blkP s a o ln cp)] 2, some (.bool false), [.b (a == (s.size : Int)) (.val (.bool false)), .b (a == (s.size : Int)) (.val (.bool false)), .b (a == (s.size : Int)) (.val (.bool false)), .b (a == (s.size : Int)) (.val (.bool false)), .b (a == (s.size : Int)) (.val (.bool false)), .b (a == (s.size : Int)) (.val (.bool false)), .b (a == (s.size : Int)) (.val (.bool false)), .b (a == (s.size : Int)) (.val (.bool false)), .b (a == (s.size : Int)) (.val (.bool false)), .sx s a x, .b (a == (s.size : Int)) (.val (.bool false)), .b (a == (s.size : Int)) (.val (.bool false)), .b (a == (s.size : Int)) (.val (.bool false)), .b (x != c) (.val (.bool true))]) := by kernel_rfl
theorem t50c (s : ByteArray) (a c x : Int) (o ln cp : Nat) : run50 s a c o ln cp [fls 24, fls 26, fls 28, fls 30, fls 32, fls 34, fls 36, fls 38, fls 40, got 41 (.int .u8 x), fls 42, fls 44, fls 47, fls 48] = some (.ret, (startMem [(0, blkP s a o ln cp)] 2).put 0 (some (blkP s (IntKind.wrap .i64 (a + 1)) o ln cp)), some (.bool true), [.b (a == (s.size : Int)) (.val (.bool false)), .b (a == (s.size : Int)) (.val (.bool false)), .b (a == (s.size : Int)) (.val (.bool false)), .b (a == (s.size : Int)) (.val (.bool false)), .b (a == (s.size : Int)) (.val (.bool false)), .b (a == (s.size : Int)) (.val (.bool false)), .b (a == (s.size : Int)) (.val (.bool false)), .b (a == (s.size : Int)) (.val (.bool false)), .b (a == (s.size : Int)) (.val (.bool false)), .sx s a x, .b (a == (s.size : Int)) (.val (.bool false)), .b (a == (s.size : Int)) (.val (.bool false)), .b (a == (s.size : Int)) (.val (.bool false)), .b (x != c) (.val (.bool false))]) := by kernel_rfl
end Go.Proofs.YtlgkpnlppgihcaaDoor

open Go Go.Am Go.Proofs
namespace Go.Proofs.YtlgkpnlppgihcaaDoor
set_option maxRecDepth 100000

/- What take answers: is it this byte? -/
noncomputable def gTake1 (p q : Nat) (s : ByteArray) (a : Int) (o ln cp : Nat) (c : Int) (M : Mem) : Option (Value × Mem) :=
  bif a == (s.size : Int) then some (.bool false, M)
  else match a with
    | .ofNat n => match s.data.toList[n]? with
      | some x => bif (x.toNat : Int) != c then some (.bool false, M)
        else bif Nat.ble n 1099511627776 then some (.bool true, M.put p (some ⟨[.string s, .int .i64 (.ofNat (n + 1)), .slice (some ⟨q, o, none⟩) ln cp], 70, 3, 0, true⟩)) else none
      | none => none
    | _ => none
noncomputable def gTake (args : List Value) (M : Mem) : Option (Value × Mem) :=
  match args with
  | [.pointer (some ⟨p, 0, none⟩), .int .u8 c] => match M.get p with
    | some ⟨[.string s, .int .i64 a, .slice (some ⟨q, o, none⟩) ln cp], e, z, w, app⟩ =>
      bif Nat.beq p q || !(Nat.beq e 70) || !(Nat.beq z 3) || !(Nat.beq w 0) || !app || !(Nat.blt q M.next) then none else gTake1 p q s a o ln cp c M
    | _ => none
  | _ => none

theorem take_mut {p q : Nat} {s : ByteArray} {a c : Int} {o ln cp : Nat} {M : Mem} (hg : M.get p = some ⟨[.string s, .int .i64 a, .slice (some ⟨q, o, none⟩) ln cp], 70, 3, 0, true⟩) (hpq : p ≠ q) (hq : q < M.next)
    {v : Value} {M0 : Mem} (hr : Go.Am.arun Tryd.prog [] noSpecs 60 50 [pt 0 0, .int .u8 c] (startMem [(0, blkP s a o ln cp)] 2) = some (v, M0)) (hv : flat v = true)
    {olds : List (Nat × Option ABlk)} (ho : (olds = [] ∧ M0.log = []) ∨ ∃ a' : Int, olds = [(p, some ⟨[.string s, .int .i64 a', .slice (some ⟨q, o, none⟩) ln cp], 70, 3, 0, true⟩)] ∧ M0.log = [0] ∧ M0.get 0 = some (blkP s a' o ln cp)) :
    ∃ src l n SP args0 v0 M0 keepJ newsS, FromMut Tryd.prog 50 [.pointer (some ⟨p, 0, none⟩), .int .u8 c] M v olds [] src l n SP args0 v0 M0 keepJ newsS := by
  have hd : Go.Am.distinct [p, q] = true := by
    have : Nat.beq p q = false := by
      cases h : Nat.beq p q
      · rfl
      · exact absurd (Nat.eq_of_beq_eq_true h) hpq
    simp only [Go.Am.distinct, Go.Am.memN, this, Bool.or_false, Bool.not_false, Bool.and_self]
  have tp : toTgt (mvIn 0 [p, q]) p = some 0 := toTgt_in (t := 0) hd rfl
  have tq : toTgt (mvIn 0 [p, q]) q = some 1 := toTgt_in (t := 1) hd rfl
  refine ⟨[p, q], [(0, blkP s a o ln cp)], 60, noSpecs, [pt 0 0, .int .u8 c], v, M0, [0, 1], [], fun B => SpecsOk.none, hr, hd, fun x hx => ?_, ?_, fun t ht hlt => ?_, fun j a' hj => ?_, fun a' ha' => ?_, fun j hj => ?_, fun a' b hab => ?_, fun i b hb => (by simp at hb), rfl, rfl, fun s hs => (by cases hs), renV_flat _ _ hv⟩
  · rw [List.mem_singleton] at hx
    subst hx
    exact ⟨p, _, rfl, hg, by simp only [renL, renV, renAddr, tq, leaf, cond_true, blkP], rfl⟩
  · simp only [renL, renV, renAddr, tp, leaf, cond_true]
  · rcases ho with ⟨_, hl⟩ | ⟨a', rfl, hl, _⟩
    · rw [hl] at ht; cases ht
    · rw [hl, List.mem_singleton] at ht
      subst ht
      exact ⟨⟨_, List.mem_singleton.2 rfl, rfl, .inl rfl⟩, p, rfl, by simp⟩
  · match j with
    | 0 => simp at hj; subst hj; exact (get_spec.1 hg).1
    | 1 => simp at hj; subst hj; exact hq
    | j + 2 => simp at hj
  · rcases ho with ⟨rfl, _⟩ | ⟨_, rfl, _⟩
    · cases ha'
    · simp at ha'; subst ha'; exact ⟨0, rfl⟩
  · simp only [List.mem_cons, List.not_mem_nil, or_false] at hj
    rcases hj with rfl | rfl <;> simp
  · rcases ho with ⟨rfl, _⟩ | ⟨a2, rfl, _, hm⟩
    · cases hab
    · simp only [List.mem_singleton, Prod.mk.injEq, Option.some.injEq] at hab
      obtain ⟨rfl, rfl⟩ := hab
      refine ⟨0, _, by simp, rfl, hm, ⟨[], ?_⟩, rfl⟩
      rfl

theorem okTake (B : Nat) : SpecOk Tryd.prog [] B 50 gTake := SpecOk.ofMut noNumP mixedP fun args M v M' h => by
  unfold gTake at h
  split at h
  · rename_i p c
    split at h
    · rename_i s a q o ln cp e z w app hg
      cases hq : (Nat.beq p q || !(Nat.beq e 70) || !(Nat.beq z 3) || !(Nat.beq w 0) || !app || !(Nat.blt q M.next)) <;> simp only [hq, cond_true, cond_false] at h
      · simp only [Bool.or_eq_false_iff, Bool.not_eq_false', Nat.beq_eq] at hq
        obtain ⟨⟨⟨⟨⟨h1, rfl⟩, rfl⟩, rfl⟩, rfl⟩, h6⟩ := hq
        have hpq : p ≠ q := fun x => by subst x; simp at h1
        have hlt : q < M.next := Nat.le_of_ble_eq_true h6
        have hn : Nat.ble 2 Tryd.f50.ntmps = true := by kernel_rfl
        have hmut : M = M.mut [] [] := rfl
        unfold gTake1 at h
        cases ha : (a == (s.size : Int)) <;> simp only [ha, cond_true, cond_false] at h
        · split at h
          · rename_i n
            split at h
            · rename_i x hx
              have hsx : s[n]? = some x := by
                have hl : n < s.size := by
                  have := (List.getElem?_eq_some_iff.1 hx).1
                  simpa using this
                rw [getElem?_pos s n hl]
                have h2 := (List.getElem?_eq_some_iff.1 hx).2
                congr 1
              have q1 : (QV.sx s (Int.ofNat n) (x.toNat : Int)).holds Tryd.prog noSpecs noDoors [] := ⟨x, Int.natCast_nonneg n, hsx, rfl⟩
              have qf : (QV.b (Int.ofNat n == (s.size : Int)) (.val (.bool false))).holds Tryd.prog noSpecs noDoors [] := qb ha
              cases hc : ((x.toNat : Int) != c) <;> simp only [hc, cond_true, cond_false] at h
              · cases hb : Nat.ble n 1099511627776 <;> simp only [hb, cond_true, cond_false] at h
                · cases h
                · cases h
                  have ht := t50c s (Int.ofNat n) c (x.toNat : Int) o ln cp
                  unfold run50 at ht
                  obtain ⟨M0, k1, k2⟩ := xrun_of (look := fun M => M) Tryd.func50 body50 (by exact hn) ht (.inr rfl) (hold_cons qf (hold_cons qf (hold_cons qf (hold_cons qf (hold_cons qf (hold_cons qf (hold_cons qf (hold_cons qf (hold_cons qf (hold_cons q1 (hold_cons qf (hold_cons qf (hold_cons qf (hold_cons (qb hc) hold_nil))))))))))))))
                  have hw : IntKind.wrap .i64 (Int.ofNat n + 1) = Int.ofNat (n + 1) := by
                    have := Nat.le_of_ble_eq_true hb
                    rw [IntWalk.i64_in _ (by simp only [Int.ofNat_eq_natCast]; omega)]
                    rfl
                  subst k2
                  exact ⟨[(p, _)], [], by
                    obtain ⟨src, l, n', SP, args0, v0, M1, keepJ, newsS, hF⟩ := take_mut hg hpq hlt k1 rfl (.inr ⟨Int.ofNat (n + 1), rfl, rfl, by rw [← hw]; rfl⟩)
                    exact ⟨src, l, n', SP, args0, v0, M1, keepJ, newsS, rfl, hF⟩⟩
              · cases h
                have ht := t50b s (Int.ofNat n) c (x.toNat : Int) o ln cp
                unfold run50 at ht
                obtain ⟨M0, k1, k2⟩ := xrun_of (look := fun M => M) Tryd.func50 body50 (by exact hn) ht (.inr rfl) (hold_cons qf (hold_cons qf (hold_cons qf (hold_cons qf (hold_cons qf (hold_cons qf (hold_cons qf (hold_cons qf (hold_cons qf (hold_cons q1 (hold_cons qf (hold_cons qf (hold_cons qf (hold_cons (qb hc) hold_nil))))))))))))))
                subst k2
                exact ⟨[], [], by
                  obtain ⟨src, l, n', SP, args0, v0, M1, keepJ, newsS, hF⟩ := take_mut hg hpq hlt k1 rfl (.inl ⟨rfl, rfl⟩)
                  exact ⟨src, l, n', SP, args0, v0, M1, keepJ, newsS, hmut, hF⟩⟩
            · cases h
          · cases h
        · cases h
          have ht := t50a s a c o ln cp
          unfold run50 at ht
          have qt' : (QV.b (a == (s.size : Int)) (.val (.bool true))).holds Tryd.prog noSpecs noDoors [] := qb ha
          obtain ⟨M0, k1, k2⟩ := xrun_of (look := fun M => M) Tryd.func50 body50 (by exact hn) ht (.inr rfl) (hold_cons qt' (hold_cons qt' (hold_cons qt' (hold_cons qt' (hold_cons qt' (hold_cons qt' (hold_cons qt' (hold_cons qt' (hold_cons qt' (hold_cons qt' (hold_cons qt' (hold_cons qt' hold_nil))))))))))))
          subst k2
          exact ⟨[], [], by
            obtain ⟨src, l, n', SP, args0, v0, M1, keepJ, newsS, hF⟩ := take_mut hg hpq hlt k1 rfl (.inl ⟨rfl, rfl⟩)
            exact ⟨src, l, n', SP, args0, v0, M1, keepJ, newsS, hmut, hF⟩⟩
      · cases h
    · cases h
  · cases h

noncomputable def SPT : Specs := specs [(50, gTake)]
theorem specsT (B : Nat) : SpecsOk Tryd.prog [] B SPT := specs_ok fun p hp => by
  simp only [List.mem_cons, List.not_mem_nil, or_false] at hp
  subst hp
  exact okTake B
end Go.Proofs.YtlgkpnlppgihcaaDoor
