/-
  NetWalks: whether any edges are a walk, its cost and its word, are the document's: of any network of at most twelve vertices that is made of the numbers handed in, and of any rows of edges, of at most sixty where they are handed in; the answer is true for every argument.
-/
import Derived.Test.YtlmifmodnkhidaaDoorGW1
open Go Go.Am Go.Proofs
namespace Go.Proofs.YtlmifmodnkhidaaDoor
set_option maxRecDepth 10000
noncomputable def B11 : Code := Tryd.f11.body.get!
theorem body11 : Tryd.f11.body = some B11 := by kernel_rfl
noncomputable def loop11a : Code := unloop ((inner 2 100 B11).get!)
noncomputable def loop11b : Code := unloop ((inner 4 100 B11).get!)
noncomputable def SP11 (bs : List (Nat × (Code → St → Option (AExit × St)))) : Specs := specsB [(13, ansNone (.bool true)), (18, g18), (24, g24)] bs
def xV (ne : Nat) : List Value := [i64 2, sl 10 ne]
def blks11 (ec : List Value) (wb : List (Nat × ABlk)) : List (Nat × ABlk) := [(0, own (xV 5) 24 2), (10, own ec 31 4)] ++ wb
def lg11 : List Nat := [0, 8, 0, 6, 0, 4, 0, 2, 0, 0]
def L11 : List Nat := [0, 1, 2, 3, 4, 5, 6, 7, 8, 9]
def L11b : List Nat := [0, 1, 2, 3, 4, 5, 6, 7, 8, 9, 10, 11]
def I11 (nx : Nat) (ec : List Value) (c : Int) (k : Nat) (want iv : Int) (wv : Value) (wb : List (Nat × ABlk)) : St :=
  ⟨tabT [(5, i64 k), (6, .pointer (some ⟨0, 0, none⟩)), (7, i64 c), (8, wv), (10, i64 want), (11, i64 iv)], 86, ⟨blkTree (blks11 ec wb), nx, [], L11 ++ lg11⟩⟩
def keep11 : List Nat := [5, 6, 7, 8, 10, 11]
def mv11 (l : Moves) : Moves := [(0, 0, true), (10, 10, true)] ++ l
noncomputable def rnd11 (s : St) (F : List Fact) (nx : Nat) (l : Moves) :=
  (hexec Tryd.prog [] noSpecs 60 loop11a s F 0).map (fun r => (r.1.1, rebase 11 nx (mv11 l) keep11 L11 lg11 r.1.2, stills r.1.2.M (mv11 l), Nat.ble r.1.2.M.next 20, r.2.2.2.map (view noDoors [])))
variable (ec wc : List Value) (c want iv : Int) (k nw : Nat)
theorem st11A : rnd11 (I11 12 ec c k want iv (.slice none 0 0) []) [tru 6] 12 [(11, 13, true)] =
    some (.normal, some (I11 12 ec c k (IntKind.wrap .i64 (IntKind.wrap .i64 (want + c) - iv.tmod 5)) (IntKind.wrap .i64 (iv + 1)) (sl 11 1) [(11, own [i64 (iv.tmod 5)] 3 1)]), [xV 5, ec, [i64 (iv.tmod 5)]], true, [q1 iv k true]) := by kernel_rfl
theorem st11B : rnd11 (I11 12 ec c k want iv (sl 11 nw) [(11, own wc 3 1)]) [tru 6, onto 16 wc] 12 [(11, 13, true)] =
    some (.normal, some (I11 12 ec c k (IntKind.wrap .i64 (IntKind.wrap .i64 (want + c) - iv.tmod 5)) (IntKind.wrap .i64 (iv + 1)) (sl 11 (nw + 1)) [(11, own (wc ++ [i64 (iv.tmod 5)]) 3 1)]), [xV 5, ec, wc ++ [i64 (iv.tmod 5)]], true,
      [q1 iv k true, .ap [25, 25] (sl 11 nw) (.slice (some ⟨12, 0, none⟩) 1 2) wc (own wc 3 1) [i64 (iv.tmod 5)]]) := by kernel_rfl
theorem st11E : rnd11 (I11 12 ec c k want iv (sl 11 nw) [(11, own wc 3 1)]) [fls 6] 20 [(11, 11, true)] =
    some (.exit 2, some (I11 20 ec c k want iv (sl 11 nw) [(11, own wc 3 1)]), [xV 5, ec, wc], true, [q1 iv k false]) := by kernel_rfl

def I11b (nx : Nat) (wc : List Value) (k : Nat) (iv : Int) : St :=
  ⟨tabT [(5, i64 k), (13, sl 20 k), (15, i64 iv)], 86, ⟨blkTree [(20, own wc 3 1)], nx, [], L11b ++ (L11 ++ lg11)⟩⟩
noncomputable def rnd11b (s : St) (F : List Fact) (nx : Nat) :=
  (hexec Tryd.prog [] noSpecs 60 loop11b s F 0).map (fun r => (r.1.1, rebase 21 nx [(20, 20, true)] [5, 13, 15] L11b (L11 ++ lg11) r.1.2, stills r.1.2.M [(20, 20, true)], Nat.ble r.1.2.M.next 21, r.2.2.2.map (view noDoors [])))
theorem st11bA (wi : Int) : rnd11b (I11b 21 wc k iv) [tru 6, tru 12, got 14 (i64 wi), fls 21] 21 =
    some (.normal, some (I11b 21 wc k (IntKind.wrap .i64 (iv + 1))), [wc], true, [q1 iv k true, .ib iv k, .ld 3 (0 + iv.toNat * 1) (some (own wc 3 1)) (.val (i64 wi)), .b (wi != iv.tmod 5) (.val (.bool false))]) := by kernel_rfl
theorem st11bE : rnd11b (I11b 21 wc k iv) [fls 6] 21 = some (.exit 4, some (I11b 21 wc k iv), [wc], true, [q1 iv k false]) := by kernel_rfl

def door11 : Nat → Door
  | 2 => ⟨11, 12, mv11 [], keep11, L11, lg11⟩
  | _ => ⟨21, 21, [(20, 20, true)], [5, 13, 15], L11b, L11 ++ lg11⟩
def ec11 (c : Int) : List Value := [i64 0, i64 0, i64 0, i64 (IntKind.wrap .i64 (c - 0)), i64 0, i64 0, i64 1, i64 (IntKind.wrap .i64 (c - 1)), i64 0, i64 0, i64 2, i64 (IntKind.wrap .i64 (c - 2)), i64 0, i64 0, i64 3, i64 (IntKind.wrap .i64 (c - 3)), i64 0, i64 0, i64 4, i64 (IntKind.wrap .i64 (c - 4))]
noncomputable def run11 (SP : Specs) (n x : Int) (F : List Fact) :=
  (hexec Tryd.prog [] SP 90 B11 ⟨initT [i64 n, i64 x] 0 .nil, Tryd.f11.ntmps, zeroMem⟩ F 0).map (fun r => (r.1.1, (), aresults Tryd.prog Tryd.f11 r.1.2, r.2.2.2.map (view door11 [10, 11])))
def c11 (j : Nat) : Int := IntKind.wrap .i64 (2147483647 - (j : Int))
theorem run11z (n x : Int) (j : Nat) : (hexec Tryd.prog [] (specs [(13, ansNone (.bool true)), (18, g18)]) 90 B11 ⟨initT [i64 n, i64 x] 0 .nil, Tryd.f11.ntmps, zeroMem⟩ [got 10 (i64 (0 : Nat)), got 22 (i64 j)] 0).map (fun r => (r.1.1, (), aresults Tryd.prog Tryd.f11 r.1.2, r.2.2.2.map (view door11 []))) =
    some (.ret, (), some (.bool true), [.cr 18 [i64 n, i64 300] [] (.val (i64 (0 : Nat))), .cr 18 [i64 x, i64 5] [] (.val (i64 j))]) := by kernel_rfl
theorem run11k (n x d w : Int) (j : Nat) (g2 g4 : Code → St → Option (AExit × St)) : run11 (SP11 [(2, g2), (4, g4)]) n x [got 10 (i64 k), got 22 (i64 j), past 205 .normal (I11 20 (ec11 (c11 j)) (c11 j) k w k (sl 11 k) [(11, own wc 3 1)]),
      madeB 211 (.tuple ⟨[i64 d, sl 20 k, .bool true]⟩) (own wc 3 1), fls 242, fls 244, fls 246, fls 248, fls 251, fls 252, past 255 .normal (I11b 21 wc k k)] =
    some (.ret, (), some (.bool true), [.cr 18 [i64 n, i64 300] [none, none] (.val (i64 k)), .cr 18 [i64 x, i64 5] [none, none] (.val (i64 j)),
      .bk 2 (.loop loop11a) 11 lg11 (some (I11 12 (ec11 (c11 j)) (c11 j) k 0 0 (.slice none 0 0) [])) [xV 5, ec11 (c11 j)] true .normal (I11 20 (ec11 (c11 j)) (c11 j) k w k (sl 11 k) [(11, own wc 3 1)]),
      .ca 24 [.agg ⟨xV 5⟩, i64 0, i64 0, sl 11 k] [some (own (ec11 (c11 j)) 31 4), some (own wc 3 1)] 20 (.val (.tuple ⟨[i64 d, sl 20 k, .bool true]⟩)) (own wc 3 1),
      .b (d != w) (.val (.bool false)), .b (d != w) (.val (.bool false)), .b (d != w) (.val (.bool false)), .b (d != w) (.val (.bool false)), .b (d != w) (.val (.bool false)), .b ((k : Int) != (k : Int)) (.val (.bool false)),
      .bk 4 (.loop loop11b) 21 (L11 ++ lg11) (some (I11b 21 wc k 0)) [wc] true .normal (I11b 21 wc k k)]) := by kernel_rfl
end Go.Proofs.YtlmifmodnkhidaaDoor

open Go Go.Am Go.Proofs
namespace Go.Proofs.YtlmifmodnkhidaaDoor
set_option maxRecDepth 10000

def lsOf (n : Nat) : List Int := (List.range n).map fun j => ((j % 5 : Nat) : Int)
def sumC (c : Int) : List Int → Int
  | [] => 0
  | x :: l => (c - x) + sumC c l
theorem sumC_snoc (c x : Int) : ∀ l, sumC c (l ++ [x]) = sumC c l + (c - x)
  | [] => by simp [sumC]
  | y :: l => by simp only [List.cons_append, sumC, sumC_snoc c x l]; omega
theorem lsOf_succ (i : Nat) : lsOf (i + 1) = lsOf i ++ [((i % 5 : Nat) : Int)] := by simp [lsOf, List.range_succ]
theorem lsOf_len (i : Nat) : (lsOf i).length = i := by simp [lsOf]
theorem lsOf_mem {i : Nat} {x : Int} (h : x ∈ lsOf i) : 0 ≤ x ∧ x ≤ 4 := by
  simp only [lsOf, List.mem_map] at h
  obtain ⟨j, _, rfl⟩ := h
  omega
theorem lsOf_get {i k : Nat} (h : i < k) : (lsOf k)[i]? = some ((i % 5 : Nat) : Int) := by simp [lsOf, h]
theorem sumC_range {c : Int} (h1 : 10 ≤ c) (h2 : c ≤ 2 ^ 31) : ∀ (l : List Int), (∀ x ∈ l, 0 ≤ x ∧ x ≤ 4) → 0 ≤ sumC c l ∧ sumC c l ≤ l.length * 2 ^ 31
  | [], _ => by simp [sumC]
  | x :: l, h => by
    have hx := h x (List.mem_cons_self ..)
    have ih := sumC_range h1 h2 l fun y hy => h y (List.mem_cons_of_mem _ hy)
    simp only [sumC, List.length_cons]
    omega
theorem tmod5 (i : Nat) : ((i : Nat) : Int).tmod 5 = ((i % 5 : Nat) : Int) := rfl
theorem wr {z : Int} (h : -2 ^ 62 ≤ z ∧ z ≤ 2 ^ 62) : IntKind.wrap .i64 z = z := IntWalk.i64_in _ (by omega)

def es11 (c : Int) : List E := [⟨0, 0, 0, IntKind.wrap .i64 (c - 0)⟩, ⟨0, 0, 1, IntKind.wrap .i64 (c - 1)⟩, ⟨0, 0, 2, IntKind.wrap .i64 (c - 2)⟩, ⟨0, 0, 3, IntKind.wrap .i64 (c - 3)⟩, ⟨0, 0, 4, IntKind.wrap .i64 (c - 4)⟩]
theorem ecOf_es11 (c : Int) : ecOf (es11 c) = ec11 c := rfl
theorem es11_get {c x : Int} (hc : 10 ≤ c ∧ c ≤ 2 ^ 31) (h : 0 ≤ x ∧ x ≤ 4) : (es11 c)[x.toNat]? = some ⟨0, 0, x, c - x⟩ := by
  have h5 : x = 0 ∨ x = 1 ∨ x = 2 ∨ x = 3 ∨ x = 4 := by omega
  rcases h5 with rfl | rfl | rfl | rfl | rfl <;> (simp only [es11]; rw [wr (z := c - 0) (by omega), wr (z := c - 1) (by omega), wr (z := c - 2) (by omega), wr (z := c - 3) (by omega), wr (z := c - 4) (by omega)]; rfl)
theorem go11 {c : Int} (hc : 10 ≤ c ∧ c ≤ 2 ^ 31) : ∀ (l : List Int) (s : Int) (ws : List Int), (∀ x ∈ l, 0 ≤ x ∧ x ≤ 4) → 0 ≤ s → s + l.length * 2 ^ 31 ≤ 2 ^ 60 → go (es11 c) l 0 s ws = some (0, s + sumC c l, ws ++ l)
  | [], s, ws, _, _, _ => by simp [go, sumC]
  | x :: l, s, ws, h, h1, h2 => by
    have hx := h x (List.mem_cons_self ..)
    unfold go
    simp only [List.length_cons] at h2
    rw [if_pos ⟨hx.1, by show x < 5; omega⟩, es11_get hc hx]
    simp only [if_true]
    rw [wr (by omega), go11 hc l _ _ (fun y hy => h y (List.mem_cons_of_mem _ hy)) (by omega) (by omega)]
    simp only [sumC, List.append_assoc, List.singleton_append, Option.some.injEq, Prod.mk.injEq]
    exact ⟨trivial, by omega, trivial⟩
theorem walk11 {c : Int} (hc : 10 ≤ c ∧ c ≤ 2 ^ 31) (k : Nat) (hk : k ≤ 300) : walkR 2 (es11 c) 0 0 (lsOf k) = some (sumC c (lsOf k), lsOf k) := by
  unfold walkR
  rw [if_pos (by decide), go11 hc _ 0 [] (fun x hx => lsOf_mem hx) (by omega) (by rw [lsOf_len]; omega)]
  simp

def wV (id i : Nat) : Value := match i with | 0 => .slice none 0 0 | n + 1 => sl id (n + 1)
def wB (id i : Nat) : List (Nat × ABlk) := match i with | 0 => [] | n + 1 => [(id, own (ints (lsOf (n + 1))) 3 1)]
def S11 (c : Int) (k i : Nat) : St := I11 12 (ec11 c) c k (sumC c (lsOf i)) i (wV 11 i) (wB 11 i)

theorem xV_still (mv : Moves) (h : toTgt mv 10 = some 10) : renL mv (xV 5) = some (xV 5) := by
  simp [xV, renL, renV, leaf, sl, renAddr, h]

theorem step11 {c : Int} (hc : 10 ≤ c ∧ c ≤ 2 ^ 31) {k : Nat} (hk : k ≤ 300) (hk0 : 0 < k) (B : Nat) (i : Nat) (hi : i ≤ k) :
    ∃ SP n s1, SpecsOk Tryd.prog [] B SP ∧ s1.M.next ≤ 20 ∧
      ((∃ nx mv keep d', aexec Tryd.prog [] SP n loop11a (S11 c k i) = some (.normal, s1) ∧ View 11 nx mv keep L11 lg11 s1 (S11 c k d') ∧ d' ≤ k ∧ k - d' < k - i) ∨
        (∃ mv keep, aexec Tryd.prog [] SP n loop11a (S11 c k i) = some (.exit 2, s1) ∧ View 11 20 mv keep L11 lg11 s1 (I11 20 (ec11 c) c k (sumC c (lsOf k)) k (sl 11 k) [(11, own (ints (lsOf k)) 3 1)]))) := by
  have fl : ∀ (mv : Moves) (x : List Value), toTgt mv 10 = some 10 → flatL x = true → ∀ l ∈ [xV 5, ec11 c, x], renL mv l = some l := fun mv x hmv hx l hl => by
    simp only [List.mem_cons, List.not_mem_nil, or_false] at hl
    rcases hl with rfl | rfl | rfl
    · exact xV_still _ hmv
    · exact renL_flat _ _ rfl
    · exact renL_flat _ _ hx
  have hs0 := sumC_range (c := c) hc.1 hc.2 (lsOf i) fun x hx => lsOf_mem hx
  rw [lsOf_len] at hs0
  have hfl : flatL (ints (lsOf i)) = true := ints_flat _
  by_cases hlt : i < k
  · have hq : (q1 (i : Int) k true).holds Tryd.prog noSpecs noDoors [] := q1_ok (by simp; omega)
    have hwant : IntKind.wrap .i64 (IntKind.wrap .i64 (sumC c (lsOf i) + c) - ((i : Nat) : Int).tmod 5) = sumC c (lsOf (i + 1)) := by
      rw [lsOf_succ, sumC_snoc, tmod5]
      have h5 : ((i % 5 : Nat) : Int) ≤ 4 := by omega
      have h6 : 0 ≤ ((i % 5 : Nat) : Int) := by omega
      generalize ((i % 5 : Nat) : Int) = z at h5 h6 ⊢
      rw [wr (z := sumC c (lsOf i) + c) (by omega), wr (by omega)]
      omega
    have hiv : IntKind.wrap .i64 ((i : Int) + 1) = ((i + 1 : Nat) : Int) := by rw [wr (by omega)]; omega
    cases i with
    | zero =>
      have hs := st11A (ec11 c) c 0 ((0 : Nat) : Int) k
      unfold rnd11 at hs
      obtain ⟨s1, k1, k2, k3⟩ := round_of (doors := noDoors) (ids := []) hs (fun p hp => by rw [List.mem_singleton.1 hp]; exact hq) (fl _ _ rfl rfl)
      have e0 : sumC c (lsOf 0) = 0 := rfl
      rw [e0] at hwant
      rw [hwant, hiv] at k3
      exact ⟨noSpecs, 60, s1, SpecsOk.none, k1, .inl ⟨12, _, keep11, 1, k2, k3, hlt, by omega⟩⟩
    | succ i =>
      have hs := st11B (ec11 c) (ints (lsOf (i + 1))) c (sumC c (lsOf (i + 1))) ((i + 1 : Nat) : Int) k (i + 1)
      unfold rnd11 at hs
      obtain ⟨s1, k1, k2, k3⟩ := round_of (doors := noDoors) (ids := []) hs (fun p hp => by
        simp only [List.mem_cons, List.not_mem_nil, or_false] at hp
        rcases hp with rfl | rfl
        · exact hq
        · exact fun M r hM => ap25 (n := 1) rfl (by decide) (lsOf_len _) (by omega) rfl rfl M r hM) (fl _ _ rfl (by
          have := ints_flat (lsOf (i + 1) ++ [((i + 1 : Nat) : Int).tmod 5])
          simpa [ints] using this))
      rw [hwant, hiv] at k3
      have hw : ints (lsOf (i + 1)) ++ [i64 (((i + 1 : Nat) : Int).tmod 5)] = ints (lsOf (i + 1 + 1)) := by
        rw [lsOf_succ (i + 1), tmod5]; simp [ints]
      rw [hw] at k3
      exact ⟨noSpecs, 60, s1, SpecsOk.none, k1, .inl ⟨12, _, keep11, i + 1 + 1, k2, k3, hlt, by omega⟩⟩
  · have he : i = k := by omega
    subst he
    obtain ⟨m, rfl⟩ : ∃ m, i = m + 1 := ⟨i - 1, by omega⟩
    have hs := st11E (ec11 c) (ints (lsOf (m + 1))) c (sumC c (lsOf (m + 1))) ((m + 1 : Nat) : Int) (m + 1) (m + 1)
    unfold rnd11 at hs
    obtain ⟨s1, k1, k2, k3⟩ := round_of (doors := noDoors) (ids := []) hs (fun p hp => by rw [List.mem_singleton.1 hp]; exact q1_ok (by simp)) (fl _ _ rfl hfl)
    exact ⟨noSpecs, 60, s1, SpecsOk.none, k1, .inr ⟨_, _, k2, k3⟩⟩

theorem blk11a {c : Int} (hc : 10 ≤ c ∧ c ≤ 2 ^ 31) {k : Nat} (hk : k ≤ 300) (hk0 : 0 < k) (B : Nat) :
    BlkOk Tryd.prog [] B 2 (loopG (.loop loop11a) (door11 2) (S11 c k 0) (.normal, I11 20 (ec11 c) c k (sumC c (lsOf k)) k (sl 11 k) [(11, own (ints (lsOf k)) 3 1)])) := by
  refine loopG_ok (e := .exit 2) noNumP mixedP (S11 c k) (fun d => d ≤ k) (fun d => k - d) (K := 20) (by intro h; cases h) (Nat.zero_le _) (by decide) rfl rfl rfl ?_ (step11 hc hk hk0 B)
  intro id hid hn
  have : id < 11 := hid
  have h10 : id = 10 := by
    simp only [door11, L11, List.mem_cons, List.not_mem_nil, or_false] at hn
    omega
  subst h10
  rfl

theorem step11b {k : Nat} (hk : k ≤ 300) (B : Nat) (i : Nat) (hi : i ≤ k) :
    ∃ SP n s1, SpecsOk Tryd.prog [] B SP ∧ s1.M.next ≤ 21 ∧
      ((∃ nx mv keep d', aexec Tryd.prog [] SP n loop11b (I11b 21 (ints (lsOf k)) k i) = some (.normal, s1) ∧ View 21 nx mv keep L11b (L11 ++ lg11) s1 (I11b 21 (ints (lsOf k)) k (d' : Nat)) ∧ d' ≤ k ∧ k - d' < k - i) ∨
        (∃ mv keep, aexec Tryd.prog [] SP n loop11b (I11b 21 (ints (lsOf k)) k i) = some (.exit 4, s1) ∧ View 21 21 mv keep L11b (L11 ++ lg11) s1 (I11b 21 (ints (lsOf k)) k k))) := by
  have fl : ∀ (mv : Moves), ∀ l ∈ [ints (lsOf k)], renL mv l = some l := fun mv l hl => by rw [List.mem_singleton.1 hl]; exact renL_flat _ _ (ints_flat _)
  by_cases hlt : i < k
  · have hs := st11bA (ints (lsOf k)) i k ((i % 5 : Nat) : Int)
    unfold rnd11b at hs
    obtain ⟨s1, k1, k2, k3⟩ := round_of (doors := noDoors) (ids := []) hs (fun p hp => by
      simp only [List.mem_cons, List.not_mem_nil, or_false] at hp
      rcases hp with rfl | rfl | rfl | rfl
      · exact q1_ok (by simp; omega)
      · simp only [QV.holds, inB, Bool.and_eq_true, decide_eq_true_eq]; omega
      · exact ⟨_, rfl, by rw [ld3]; simpa using ints_get (lsOf_get hlt)⟩
      · rw [tmod5]; simp [QV.holds]) (fl _)
    have hiv : IntKind.wrap .i64 ((i : Int) + 1) = ((i + 1 : Nat) : Int) := by rw [wr (by omega)]; omega
    rw [hiv] at k3
    exact ⟨noSpecs, 60, s1, SpecsOk.none, k1, .inl ⟨21, _, _, i + 1, k2, k3, by omega, by omega⟩⟩
  · have he : i = k := by omega
    subst he
    have hs := st11bE (ints (lsOf i)) i i
    unfold rnd11b at hs
    obtain ⟨s1, k1, k2, k3⟩ := round_of (doors := noDoors) (ids := []) hs (fun p hp => by rw [List.mem_singleton.1 hp]; exact q1_ok (by simp)) (fl _)
    exact ⟨noSpecs, 60, s1, SpecsOk.none, k1, .inr ⟨_, _, k2, k3⟩⟩

theorem blk11b {k : Nat} (hk : k ≤ 300) (B : Nat) :
    BlkOk Tryd.prog [] B 4 (loopG (.loop loop11b) (door11 4) (I11b 21 (ints (lsOf k)) k (0 : Nat)) (.normal, I11b 21 (ints (lsOf k)) k k)) := by
  refine loopG_ok (e := .exit 4) noNumP mixedP (fun d : Nat => I11b 21 (ints (lsOf k)) k d) (fun d => d ≤ k) (fun d => k - d) (K := 21) (by intro h; cases h) (Nat.zero_le _) (by decide) rfl rfl rfl ?_ (step11b hk B)
  intro id hid hn
  rfl

theorem knownRun : (arun Tryd.prog [] noSpecs 300 13 [] zeroMem).map (·.1) = some (.bool true) := by kernel_rfl
theorem ok13 (B : Nat) : SpecOk Tryd.prog [] B 13 (ansNone (.bool true)) := by
  cases hk : arun Tryd.prog [] noSpecs 300 13 [] zeroMem with
  | none => have := knownRun; rw [hk] at this; cases this
  | some r =>
    obtain ⟨v, M1⟩ := r
    have := knownRun
    rw [hk] at this
    cases this
    exact SpecOk.ansNone noNumP mixedP (fun B => SpecsOk.none) hk rfl

theorem main11 (n x : Int) : ∃ SP M', (∀ B, SpecsOk Tryd.prog [] B SP) ∧ arun Tryd.prog [] SP 90 11 [i64 n, i64 x] zeroMem = some (.bool true, M') := by
  have hr := modI_range (x := n) (n := 300) (by decide)
  have hj := modI_range (x := x) (n := 5) (by decide)
  obtain ⟨k, hk⟩ : ∃ k : Nat, modI n 300 = (k : Int) := ⟨(modI n 300).toNat, by omega⟩
  obtain ⟨j, hj'⟩ : ∃ j : Nat, modI x 5 = (j : Int) := ⟨(modI x 5).toNat, by omega⟩
  rw [hk] at hr
  rw [hj'] at hj
  by_cases hk0 : k = 0
  · subst hk0
    refine ⟨specs [(13, ansNone (.bool true)), (18, g18)], ?_⟩
    obtain ⟨M', k1, _⟩ := run_of (look := fun _ => ()) Tryd.func11 body11 (by kernel_rfl) (run11z n x j) (.inr rfl) (fun p hp => by
      simp only [List.mem_cons, List.not_mem_nil, or_false] at hp
      rcases hp with rfl | rfl
      · exact fun M _ => call18 rfl n 300 (by decide) (by decide) _ hk M
      · exact fun M _ => call18 rfl x 5 (by decide) (by decide) _ hj' M)
    exact ⟨M', fun B => specs_ok fun p hp => by
      simp only [List.mem_cons, List.not_mem_nil, or_false] at hp
      rcases hp with rfl | rfl
      · exact ok13 B
      · exact ok18 B, k1⟩
  · have hcj : c11 j = 2147483647 - (j : Int) := wr (by omega)
    have hc : 10 ≤ c11 j ∧ c11 j ≤ 2 ^ 31 := by rw [hcj]; omega
    have hk300 : k ≤ 300 := by omega
    have hx := run11k (ints (lsOf k)) k n x (sumC (c11 j) (lsOf k)) (sumC (c11 j) (lsOf k)) j (loopG (.loop loop11a) (door11 2) (S11 (c11 j) k 0) (.normal, I11 20 (ec11 (c11 j)) (c11 j) k (sumC (c11 j) (lsOf k)) k (sl 11 k) [(11, own (ints (lsOf k)) 3 1)]))
      (loopG (.loop loop11b) (door11 4) (I11b 21 (ints (lsOf k)) k (0 : Nat)) (.normal, I11b 21 (ints (lsOf k)) k k))
    unfold run11 at hx
    refine ⟨SP11 [(2, (loopG (.loop loop11a) (door11 2) (S11 (c11 j) k 0) (.normal, I11 20 (ec11 (c11 j)) (c11 j) k (sumC (c11 j) (lsOf k)) k (sl 11 k) [(11, own (ints (lsOf k)) 3 1)]))), (4, (loopG (.loop loop11b) (door11 4) (I11b 21 (ints (lsOf k)) k (0 : Nat)) (.normal, I11b 21 (ints (lsOf k)) k k)))], ?_⟩
    obtain ⟨M', k1, _⟩ := run_of (look := fun _ => ()) Tryd.func11 body11 (by kernel_rfl) hx (.inr rfl) (fun p hp => by
      simp only [List.mem_cons, List.not_mem_nil, or_false] at hp
      rcases hp with rfl | rfl | rfl | rfl | rfl | rfl | rfl | rfl | rfl | rfl | rfl
      · exact fun M _ => call18 rfl n 300 (by decide) (by decide) _ hk M
      · exact fun M _ => call18 rfl x 5 (by decide) (by decide) _ hj' M
      · refine ⟨S11 (c11 j) k 0, rfl, rfl, rfl, rfl, fun l hl => ?_, rfl⟩
        simp only [List.mem_cons, List.not_mem_nil, or_false] at hl
        rcases hl with rfl | rfl
        · exact xV_still _ rfl
        · exact renL_flat _ _ rfl
      · intro M hM hnx
        simp only [List.map_cons, List.map_nil, List.cons.injEq, and_true] at hM
        obtain ⟨w, ws, hw⟩ : ∃ w ws, lsOf k = w :: ws := by
          cases hl : lsOf k with
          | nil => have := lsOf_len k; rw [hl] at this; exact absurd this.symm hk0
          | cons w ws => exact ⟨w, ws, rfl⟩
        have hlen : ws.length + 1 = k := by have := lsOf_len k; rw [hw] at this; exact this
        have h24 := call24 (SP := SP11 [(2, loopG (.loop loop11a) (door11 2) (S11 (c11 j) k 0) (.normal, I11 20 (ec11 (c11 j)) (c11 j) k (sumC (c11 j) (lsOf k)) k (sl 11 k) [(11, own (ints (lsOf k)) 3 1)])),
            (4, loopG (.loop loop11b) (door11 4) (I11b 21 (ints (lsOf k)) k (0 : Nat)) (.normal, I11b 21 (ints (lsOf k)) k k))]) rfl (N := 2) (fr := 0) (tt := 0) (a := 10) (b := 11) (ne := 5) (nl := k) (ca := 5) (cb := k) (es := es11 (c11 j)) (ls := lsOf k)
            (A := own (ec11 (c11 j)) 31 4) (Bk := own (ints (lsOf k)) 3 1) (ecOf_es11 _).symm rfl rfl (lsOf_len k) (by omega) rfl rfl (M := { M with log := [] }) hM.1 hM.2
        rw [walk11 hc k hk300, hw] at h24
        refine acall_alloc ?_
        refine h24.trans ?_
        show some (Value.tuple ⟨[i64 (sumC (c11 j) (w :: ws)), sl M.next (ws.length + 1), .bool true]⟩, ({ M with log := [] } : Mem).alloc (own (ints (w :: ws)) 3 1)) = some (Value.tuple ⟨[i64 (sumC (c11 j) (lsOf k)), sl 20 k, .bool true]⟩, ({ M with log := [] } : Mem).alloc (own (ints (lsOf k)) 3 1))
        rw [hnx, hw, hlen]
      · simp [QV.holds]
      · simp [QV.holds]
      · simp [QV.holds]
      · simp [QV.holds]
      · simp [QV.holds]
      · simp [QV.holds]
      · refine ⟨I11b 21 (ints (lsOf k)) k (0 : Nat), rfl, rfl, rfl, rfl, fun l hl => ?_, rfl⟩
        rw [List.mem_singleton.1 hl]
        exact renL_flat _ _ (ints_flat _))
    exact ⟨M', fun B => specsB_ok (fun p hp => by
      simp only [List.mem_cons, List.not_mem_nil, or_false] at hp
      rcases hp with rfl | rfl | rfl
      · exact ok13 B
      · exact ok18 B
      · exact ok24 B) (fun p hp => by
      simp only [List.mem_cons, List.not_mem_nil, or_false] at hp
      rcases hp with rfl | rfl
      · exact blk11a hc hk300 (by omega) B
      · exact blk11b hk300 B), k1⟩
end Go.Proofs.YtlmifmodnkhidaaDoor
