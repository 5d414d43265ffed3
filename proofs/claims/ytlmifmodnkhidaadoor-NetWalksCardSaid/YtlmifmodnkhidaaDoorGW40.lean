/-
  NetWalks: whether any edges are a walk, its cost and its word, are the document's: of any network of at most twelve vertices that is made of the numbers handed in, and of any rows of edges, of at most sixty where they are handed in; the answer is true for every argument.
-/
import Derived.Test.YtlmifmodnkhidaaDoorGW39
open Go Go.Am Go.Proofs
namespace Go.Proofs.YtlmifmodnkhidaaDoor
set_option maxRecDepth 10000

/- NetWalks: the whole, for any arguments. -/
theorem flat2 (a b : List Int) : flatL ([] ++ ints a ++ ints b) = true := by
  have h := ints_flat (a ++ b)
  rw [show ints (a ++ b) = [] ++ ints a ++ ints b by simp [ints]] at h
  exact h
def arV (id : Nat) : Row → Value
  | none => .slice none 0 0
  | some (_, xs) => sl id xs.length
def arB (id : Nat) : Row → List (Nat × ABlk)
  | none => []
  | some (e, xs) => [(id, ro (ints xs) e 1)]
def arM (id : Nat) : Row → Moves
  | none => []
  | some _ => [(id, id, true)]
def arO : Row → Option ABlk
  | none => none
  | some (e, xs) => some (ro (ints xs) e 1)
def SX7 (N fr tt at0 : Int) (pp pr : Row) (es : List E) (nx : Nat) : St :=
  X7 N fr tt at0 (arV 1 pp) (rV pr) (eV 3 es) (arB 1 pp) (eB 3 es) (rB pr) nx
def mX7 (pp pr : Row) (es : List E) : Moves := arM 1 pp ++ eM es ++ [(4, 4, true)] ++ rM pr
theorem stepX7 (N fr tt at0 : Int) (pp pr : Row) (es : List E) (h : pp = none ∨ es = []) {K : Nat} (hK : 16 ≤ K) (B : Nat) :
    ∃ SP m s1, SpecsOk Tryd.prog [] B SP ∧ s1.M.next ≤ K ∧ ∃ mv keep, aexec Tryd.prog [] SP m loop7 (SX7 N fr tt at0 pp pr es 6) = some (.exit 0, s1) ∧ View 5 K mv keep [0, 4] [4] s1 (SX7 N fr tt at0 pp pr es K) := by
  have hS := specs7 (bs := []) (fun _ p hp => by cases hp) B
  have close : ∀ {F : List Fact} {mv : Moves} {q : List QV} {st : List (List Value)}, rndX7 mv (SX7 N fr tt at0 pp pr es 6) F 16 = some (.exit 0, some (SX7 N fr tt at0 pp pr es 16), st, true, q) →
      (∀ p ∈ q, p.holds Tryd.prog (SP7 []) noDoors []) → (∀ l ∈ st, renL mv l = some l) → ∃ SP m s1, SpecsOk Tryd.prog [] B SP ∧ s1.M.next ≤ K ∧ ∃ mv keep, aexec Tryd.prog [] SP m loop7 (SX7 N fr tt at0 pp pr es 6) = some (.exit 0, s1) ∧ View 5 K mv keep [0, 4] [4] s1 (SX7 N fr tt at0 pp pr es K) := fun hs hq hst => by
    unfold rndX7 at hs
    obtain ⟨s1, k1, k2, k3⟩ := round_of (doors := noDoors) (ids := []) hs hq hst
    exact ⟨_, 60, s1, hS, Nat.le_trans k1 hK, _, _, k2, view_up hK k3⟩
  cases pp with
  | none =>
    cases es with
    | nil =>
      cases pr with
      | none =>
        exact close (mv := ([] ++ [] ++ [(4, 4, true)] ++ [])) (tx_nnnX N fr tt at0) (fun x hx => by cases hx) (by repeat' first | exact stNil | exact renL_flat _ _ (ints_flat _) | exact renL_flat _ _ (ecOf_flat _) | exact renL_flat _ _ (flat2 _ _) | refine stCons ?_ ?_ | refine renL_c ?_ ?_ | exact renV_sl rfl | exact rfl)
      | some pr =>
        obtain ⟨e2, rs⟩ := pr
        exact close (mv := ([] ++ [] ++ [(4, 4, true)] ++ [(2, 2, true)])) (tx_nnsX rs.length e2 (ints rs) N fr tt at0) (fun x hx => by cases hx) (by repeat' first | exact stNil | exact renL_flat _ _ (ints_flat _) | exact renL_flat _ _ (ecOf_flat _) | exact renL_flat _ _ (flat2 _ _) | refine stCons ?_ ?_ | refine renL_c ?_ ?_ | exact renV_sl rfl | exact rfl)
    | cons e0 l0 =>
      cases pr with
      | none =>
        exact close (mv := ([] ++ [(3, 3, true)] ++ [(4, 4, true)] ++ [])) (tx_nsnX (l0.length + 1) (ecOf (e0 :: l0)) N fr tt at0) (fun x hx => by cases hx) (by repeat' first | exact stNil | exact renL_flat _ _ (ints_flat _) | exact renL_flat _ _ (ecOf_flat _) | exact renL_flat _ _ (flat2 _ _) | refine stCons ?_ ?_ | refine renL_c ?_ ?_ | exact renV_sl rfl | exact rfl)
      | some pr =>
        obtain ⟨e2, rs⟩ := pr
        exact close (mv := ([] ++ [(3, 3, true)] ++ [(4, 4, true)] ++ [(2, 2, true)])) (tx_nssX (l0.length + 1) rs.length e2 (ecOf (e0 :: l0)) (ints rs) N fr tt at0) (fun x hx => by cases hx) (by repeat' first | exact stNil | exact renL_flat _ _ (ints_flat _) | exact renL_flat _ _ (ecOf_flat _) | exact renL_flat _ _ (flat2 _ _) | refine stCons ?_ ?_ | refine renL_c ?_ ?_ | exact renV_sl rfl | exact rfl)
  | some pp =>
    obtain ⟨e1, ps⟩ := pp
    cases es with
    | nil =>
      cases pr with
      | none =>
        by_cases hp : 0 < ps.length
        · exact close (mv := ([(1, 1, true)] ++ [] ++ [(4, 4, true)] ++ [])) (tx_snnT ps.length e1 (ints ps) N fr tt at0) (by simp only [List.forall_mem_cons]; (repeat' apply And.intro) <;> first | exact qd (by omega) | (intro x hx; cases hx)) (by repeat' first | exact stNil | exact renL_flat _ _ (ints_flat _) | exact renL_flat _ _ (ecOf_flat _) | exact renL_flat _ _ (flat2 _ _) | refine stCons ?_ ?_ | refine renL_c ?_ ?_ | exact renV_sl rfl | exact rfl)
        · exact close (mv := ([(1, 1, true)] ++ [] ++ [(4, 4, true)] ++ [])) (tx_snnE ps.length e1 (ints ps) N fr tt at0) (by simp only [List.forall_mem_cons]; (repeat' apply And.intro) <;> first | exact qdn (by omega) | (intro x hx; cases hx)) (by repeat' first | exact stNil | exact renL_flat _ _ (ints_flat _) | exact renL_flat _ _ (ecOf_flat _) | exact renL_flat _ _ (flat2 _ _) | refine stCons ?_ ?_ | refine renL_c ?_ ?_ | exact renV_sl rfl | exact rfl)
      | some pr =>
        obtain ⟨e2, rs⟩ := pr
        by_cases hp : 0 < ps.length
        · exact close (mv := ([(1, 1, true)] ++ [] ++ [(4, 4, true)] ++ [(2, 2, true)])) (tx_snsT ps.length rs.length e1 e2 (ints ps) (ints rs) N fr tt at0) (by simp only [List.forall_mem_cons]; (repeat' apply And.intro) <;> first | exact qd (by omega) | (intro x hx; cases hx)) (by repeat' first | exact stNil | exact renL_flat _ _ (ints_flat _) | exact renL_flat _ _ (ecOf_flat _) | exact renL_flat _ _ (flat2 _ _) | refine stCons ?_ ?_ | refine renL_c ?_ ?_ | exact renV_sl rfl | exact rfl)
        · exact close (mv := ([(1, 1, true)] ++ [] ++ [(4, 4, true)] ++ [(2, 2, true)])) (tx_snsE ps.length rs.length e1 e2 (ints ps) (ints rs) N fr tt at0) (by simp only [List.forall_mem_cons]; (repeat' apply And.intro) <;> first | exact qdn (by omega) | (intro x hx; cases hx)) (by repeat' first | exact stNil | exact renL_flat _ _ (ints_flat _) | exact renL_flat _ _ (ecOf_flat _) | exact renL_flat _ _ (flat2 _ _) | refine stCons ?_ ?_ | refine renL_c ?_ ?_ | exact renV_sl rfl | exact rfl)
    | cons e0 l0 =>
      exact absurd h (by simp)
theorem blkX7 (N fr tt at0 : Int) (pp pr : Row) (es : List E) (h : pp = none ∨ es = []) {K : Nat} (hK : 16 ≤ K) (B : Nat) :
    BlkOk Tryd.prog [] B 0 (loopG (.loop loop7) ⟨5, 6, mX7 pp pr es, keepX7, [0, 4], [4]⟩ (SX7 N fr tt at0 pp pr es 6) (.normal, SX7 N fr tt at0 pp pr es K)) := by
  refine loopG_ok (e := .exit 0) noNumP mixedP (fun _ : Unit => SX7 N fr tt at0 pp pr es 6) (fun _ => True) (fun _ => 0) (K := K) (d0 := ()) (by intro h; cases h) trivial (show (5 : Nat) ≤ K by omega) rfl rfl rfl (fun _ _ _ => rfl) (fun _ _ => ?_)
  obtain ⟨SP, m, s1, k1, k2, mv, keep, k3, k4⟩ := stepX7 N fr tt at0 pp pr es h hK B
  exact ⟨SP, m, s1, k1, k2, .inr ⟨mv, keep, k3, k4⟩⟩

/- The walk that is picked. -/
structure Walked7 (N a0 : Int) (es : List E) (d : D7) : Prop where
  at' : 0 ≤ d.2 ∧ d.2 < N
  all : ∃ c ws, go es d.1 a0 0 [] = some (d.2, c, ws)
theorem walked7_nxt {N a0 : Int} {es : List E} {ps : List Int} (hf : ∀ e ∈ es, fitsP N e) {d d' : D7} (h : Walked7 N a0 es d) (hn : nxt7 es ps d = some d') : Walked7 N a0 es d' ∧ d'.1.length = d.1.length + 1 := by
  obtain ⟨ls, a⟩ := d
  unfold nxt7 at hn
  split at hn
  · split at hn
    · rename_i x l z ho hz
      split at hn
      · rename_i ej hej
        split at hn
        · rename_i e he
          cases hn
          obtain ⟨en, e2, rfl, hen, hef⟩ := outs_mem (es := es) (a := a) (j := es.length) (x := ej) (by simp only at ho; rw [ho]; exact List.mem_of_getElem? hej)
          simp only [Int.toNat_natCast] at he
          rw [hen] at he; cases he
          have hel : en < es.length := by
            by_cases hh : en < es.length
            · exact hh
            · rw [List.getElem?_eq_none (by omega)] at hen; cases hen
          have hfe := hf e (List.mem_of_getElem? hen)
          obtain ⟨c, ws, hall⟩ := h.all
          simp only at hall
          have hall' : go es (ls ++ [(en : Int)]) a0 0 [] = some (e.t, IntKind.wrap .i64 (c + e.c), ws ++ [e.m]) := by
            rw [go_append, hall]
            simp only [go]
            rw [if_pos ⟨by omega, by omega⟩]
            simp only [Int.toNat_natCast, hen, hef, if_true]
          exact ⟨⟨⟨hfe.2.2.1, hfe.2.2.2.1⟩, ⟨_, _, hall'⟩⟩, by simp⟩
        · cases hn
      · cases hn
    · cases hn
  · cases hn
theorem walked7_run {N a0 : Int} {es : List E} {ps : List Int} (hf : ∀ e ∈ es, fitsP N e) : ∀ (n : Nat) (d : D7), Walked7 N a0 es d → Walked7 N a0 es (runD7 es ps n d) ∧ (runD7 es ps n d).1.length ≤ d.1.length + n ∧ (runD7 es ps n d = d ∨ 0 < (runD7 es ps n d).1.length)
  | 0, d, h => ⟨h, Nat.le_refl _, .inl rfl⟩
  | n + 1, d, h => by
    cases hn : nxt7 es ps d with
    | none => rw [runD7_none hn]; exact ⟨h, by omega, .inl rfl⟩
    | some d' =>
      obtain ⟨h1, h2⟩ := walked7_nxt hf h hn
      rw [runD7_some hn]
      obtain ⟨k1, k2, k3⟩ := walked7_run hf n d' h1
      refine ⟨k1, by omega, .inr ?_⟩
      rcases k3 with k3 | k3
      · rw [k3]; omega
      · exact k3
theorem walked_walk {N a0 : Int} {es : List E} {d : D7} (h0 : 0 ≤ a0 ∧ a0 < N) (h : Walked7 N a0 es d) : ∃ c ws, walkR N es a0 d.2 d.1 = some (c, ws) := by
  obtain ⟨c, ws, hall⟩ := h.all
  refine ⟨c, ws, ?_⟩
  unfold walkR
  rw [if_pos ⟨h0, h.at'⟩, hall]
  simp

section
variable {bs : List (Nat × (Code → St → Option (AExit × St)))} {D : Nat → Door} {ids : List Nat} {looks : List (Option ABlk)}
theorem h18 (x n : Int) (hn : 0 < n) (hn2 : n < 2 ^ 62) : (QV.cr 18 [i64 x, i64 n] looks (.val (i64 (modI x n)))).holds Tryd.prog (SP7 bs) D ids := fun M _ => call18 rfl x n hn hn2 _ rfl M
theorem aapR {SP : Specs} {k id len cap xid n e2 : Nat} {os xs : List Int} (hk : (k = 6 ∧ n ≠ 0 ∧ cap = len) ∨ (k = 7 ∧ n ≠ 0 ∧ cap = len + 1)) (ho : os.length = len) (hx : xs.length = n) (hb : len + n ≤ 2 ^ 30) {oc : List Value} (hoc : oc = ints os) :
    (QV.ap2 k [25, 25] (.slice (some ⟨id, 0, none⟩) len cap) (sl xid n) oc (ints xs) (own oc 3 1) (some (ro (ints xs) e2 1))).holds Tryd.prog SP D ids := fun M r hM hr => by
  subst hoc
  obtain ⟨e, h1, h2, h3, h4⟩ := info3
  refine ap2_ok (P := Tryd.prog) (elem := 3) (xd := .slice 3) (n := n) Tryd.underlying25 Tryd.underlying25 rfl h1 rfl (by rw [h2]; exact takeN_all (by rw [ints_len, ho]; omega)) (roomy_ok (by omega) h3 h4 hb) (ints_cells xs) (by rw [h2, ints_len, hx]; omega) h2.symm rfl rfl rfl
    (by rcases hk with h | h; exact .inl h; exact .inr (.inl h)) M ?_ r hr
  have hM' : M.get xid = some (ro (ints xs) e2 1) := hM
  unfold firsts sl
  simp only [hM', range, List.drop_zero]
  rw [h2]
  exact takeN_all (by rw [ints_len, hx]; omega)
theorem aap8 {SP : Specs} {id len cap : Nat} {os : List Int} (ho : os.length = len) (hb : len ≤ 2 ^ 30) {oc : List Value} (hoc : oc = ints os) {x : Value} {xb : Option ABlk} (hx : (x = .slice none 0 0 ∧ xb = none) ∨ ∃ e2, x = sl 2 0 ∧ xb = some (ro [] e2 1)) :
    (QV.ap2 8 [25, 25] (.slice (some ⟨id, 0, none⟩) len cap) x oc [] (own oc 3 1) xb).holds Tryd.prog SP D ids := fun M r hM hr => by
  subst hoc
  obtain ⟨e, h1, h2, h3, h4⟩ := info3
  refine ap2_ok (P := Tryd.prog) (elem := 3) (xd := .slice 3) (n := 0) Tryd.underlying25 Tryd.underlying25 rfl h1 (by rcases hx with ⟨rfl, _⟩ | ⟨e2, rfl, _⟩ <;> rfl) (by rw [h2]; exact takeN_all (by rw [ints_len, ho]; omega)) (roomy_ok (by omega) h3 h4 (by omega)) rfl (by simp) h2.symm rfl rfl rfl
    (.inr (.inr ⟨rfl, rfl⟩)) M ?_ r hr
  rcases hx with ⟨rfl, rfl⟩ | ⟨e2, rfl, rfl⟩
  · unfold firsts; rfl
  · have hM' : M.get 2 = some (ro [] e2 1) := hM
    unfold firsts sl
    simp only [hM', range, List.drop_zero, Nat.zero_mul]
    rfl
/- The last walks. -/
theorem gW_L {es : List E} {ls : List Int} {z r : Option ABlk} (h20 : ls.length ≤ 20) {M : Mem} (h : [0, 2, 3, 5].map M.get = [z, r, eO es, lO ls]) (N a x : Int) : gW [.agg ⟨[i64 N, eV 3 es]⟩, i64 a, i64 x, iV 5 ls] { M with log := [] } = some (out24 { M with log := [] } (walkR N es a x ls)) := by
  simp only [List.map_cons, List.map_nil, List.cons.injEq, and_true] at h
  exact gW_lie (M := { M with log := [] }) (netLie h.2.2.1) (lieL h.2.2.2 h20)
theorem l24n {es : List E} {ls : List Int} {z r : Option ABlk} (h20 : ls.length ≤ 20) {N a x c : Int} {bw : Bool} (hw : (walkR N es a x ls = none ∧ c = 0 ∧ bw = false) ∨ (walkR N es a x ls = some (c, []) ∧ bw = true)) : (QV.cr 24 [.agg ⟨[i64 N, eV 3 es]⟩, i64 a, i64 x, iV 5 ls] [z, r, eO es, lO ls] (.val (.tuple ⟨[i64 c, .slice none 0 0, .bool bw]⟩))).holds Tryd.prog (SP7 bs) D [0, 2, 3, 5] := fun M hm => acall_same (by
  refine (gW_L h20 hm N a x).trans ?_
  rcases hw with ⟨hw, rfl, rfl⟩ | ⟨hw, rfl⟩ <;> (rw [hw]; try rfl))
theorem l25n {es : List E} {ls : List Int} {z r : Option ABlk} (h20 : ls.length ≤ 20) {N a x c : Int} {bw : Bool} (hw : (walkR N es a x ls = none ∧ c = 0 ∧ bw = false) ∨ (walkR N es a x ls = some (c, []) ∧ bw = true)) : (QV.cr 25 [.agg ⟨[i64 N, eV 3 es]⟩, i64 a, i64 x, iV 5 ls] [z, r, eO es, lO ls] (.val (.tuple ⟨[i64 c, .slice none 0 0, .bool bw]⟩))).holds Tryd.prog (SP7 bs) D [0, 2, 3, 5] := fun M hm => acall_same (by
  refine (gW_L h20 hm N a x).trans ?_
  rcases hw with ⟨hw, rfl, rfl⟩ | ⟨hw, rfl⟩ <;> (rw [hw]; try rfl))
theorem l24s {es : List E} {ls : List Int} {z r : Option ABlk} (h20 : ls.length ≤ 20) {N a x c v : Int} {ws : List Int} {nx : Nat} (hw : walkR N es a x ls = some (c, v :: ws)) : (QV.ca 24 [.agg ⟨[i64 N, eV 3 es]⟩, i64 a, i64 x, iV 5 ls] [z, r, eO es, lO ls] nx (.val (.tuple ⟨[i64 c, sl nx (ws.length + 1), .bool true]⟩)) (own (ints (v :: ws)) 3 1)).holds Tryd.prog (SP7 bs) D [0, 2, 3, 5] := fun M hm hnx => acall_alloc (by
  refine (gW_L h20 hm N a x).trans ?_
  rw [hw]
  show some (Value.tuple ⟨[i64 c, sl M.next (ws.length + 1), .bool true]⟩, _) = _
  rw [hnx])
theorem l25s {es : List E} {ls : List Int} {z r : Option ABlk} (h20 : ls.length ≤ 20) {N a x c v : Int} {ws : List Int} {nx : Nat} (hw : walkR N es a x ls = some (c, v :: ws)) : (QV.ca 25 [.agg ⟨[i64 N, eV 3 es]⟩, i64 a, i64 x, iV 5 ls] [z, r, eO es, lO ls] nx (.val (.tuple ⟨[i64 c, sl nx (ws.length + 1), .bool true]⟩)) (own (ints (v :: ws)) 3 1)).holds Tryd.prog (SP7 bs) D [0, 2, 3, 5] := fun M hm hnx => acall_alloc (by
  refine (gW_L h20 hm N a x).trans ?_
  rw [hw]
  show some (Value.tuple ⟨[i64 c, sl M.next (ws.length + 1), .bool true]⟩, _) = _
  rw [hnx])
end
theorem SQ7_tc (n : Fin7) {tc : List Value} (h : ints (n.ls ++ rwL n.rw) = tc) (i nx : Nat) : Q7 (lgL n.g) n.N n.fr n.tt n.at0 n.en n.t1 (eV 3 n.es) (rV n.rw) (iV 5 n.ls) (rB n.rw ++ eB 3 n.es ++ iB 5 n.ls) n.n2 n.c2 tc (i : Nat) nx = SQ7 n i nx := by subst h; rfl
noncomputable abbrev gQ (n : Fin7) := loopG (.loop loopQ7) (doorF (lgL n.g) (dM n) 4) (SQ7 n 0 21) (.normal, SQ7 n 4 24)
theorem hbQ {g : Code → St → Option (AExit × St)} {ids : List Nat} {x : Bool} {p e r : Moves} (n : Fin7) {t sf : St} {st : List (List Value)} (ht : t = SQ7 n 0 21) (hsf : sf = SQ7 n 4 24) (hst : ∀ l ∈ st, renL (mvF (dM n)) l = some l) :
    (QV.bk 4 (.loop loopQ7) 21 (lgL n.g) (some t) st true .normal sf).holds Tryd.prog (SP7 [(0, g), (4, gQ n)]) (doorM x (lgL n.g) p e r (dM n)) ids := by
  subst ht; subst hsf
  exact ⟨_, rfl, rfl, rfl, rfl, hst, rfl⟩
noncomputable abbrev gX (N fr tt at0 : Int) (pp pr : Row) (es : List E) (K : Nat) := loopG (.loop loop7) ⟨5, 6, mX7 pp pr es, keepX7, [0, 4], [4]⟩ (SX7 N fr tt at0 pp pr es 6) (.normal, SX7 N fr tt at0 pp pr es K)
theorem hbX {h : Code → St → Option (AExit × St)} {ids lg : List Nat} {l : Moves} {N fr tt at0 : Int} {pp pr : Row} {es : List E} {K : Nat} {t sf : St} {st : List (List Value)} (ht : t = SX7 N fr tt at0 pp pr es 6) (hsf : sf = SX7 N fr tt at0 pp pr es K) (hst : ∀ l ∈ st, renL (mX7 pp pr es) l = some l) :
    (QV.bk 0 (.loop loop7) 5 [4] (some t) st true .normal sf).holds Tryd.prog (SP7 [(0, gX N fr tt at0 pp pr es K), (4, h)]) (doorM false lg (arM 1 pp) (eM es) (rM pr) l) ids := by
  subst ht; subst hsf
  exact ⟨_, rfl, rfl, rfl, rfl, hst, rfl⟩
noncomputable abbrev gI7 (n : Net7) (K : Nat) := loopG (.loop loop7) (door7 (rM n.rw) [] 0) (SI7 n ([], n.at0) 6) (.normal, SI7 n (runD7 n.es n.ps 20 ([], n.at0)) K)
theorem hbI {h : Code → St → Option (AExit × St)} {ids lg : List Nat} {p e l : Moves} {n : Net7} {K : Nat} {t sf : St} {st : List (List Value)} (ht : t = SI7 n ([], n.at0) 6) (hsf : sf = SI7 n (runD7 n.es n.ps 20 ([], n.at0)) K) (hst : ∀ l ∈ st, renL (mv7 (rM n.rw)) l = some l) :
    (QV.bk 0 (.loop loop7) 5 [4] (some t) st true .normal sf).holds Tryd.prog (SP7 [(0, gI7 n K), (4, h)]) (doorM true lg p e (rM n.rw) l) ids := by
  subst ht; subst hsf
  exact ⟨_, rfl, rfl, rfl, rfl, hst, rfl⟩

abbrev Res7 (sz fr tt : Int) (pn pp pr : Row) : Prop := ∃ SP M' k, (k = 3 ∨ k = 4) ∧ (∀ B, SpecsOk Tryd.prog [] B SP) ∧
  Go.Am.arun Tryd.prog [] SP 90 7 [i64 sz, arV 0 pn, i64 fr, i64 tt, arV 1 pp, rV pr] (startMem (arB 0 pn ++ arB 1 pp ++ rB pr) k) = some (.bool true, M')
theorem fin7 {sz fr tt : Int} {pn pp pr : Row} {k : Nat} {bs : List (Nat × (Code → St → Option (AExit × St)))} {D : Nat → Door} {ids : List Nat} {F : List Fact} {v : Value} {q : List QV} (hk : k = 3 ∨ k = 4) (hbs : ∀ B, ∀ p ∈ bs, BlkOk Tryd.prog [] B p.1 p.2)
    (hx : run7 sz fr tt (arV 0 pn) (arV 1 pp) (rV pr) (arB 0 pn ++ arB 1 pp ++ rB pr) k (SP7 bs) D ids F = some (.ret, (), some v, q)) (hv : v = .bool true) (hq : ∀ p ∈ q, p.holds Tryd.prog (SP7 bs) D ids) : Res7 sz fr tt pn pp pr := by
  subst hv
  unfold run7 at hx
  obtain ⟨M0, k1, _⟩ := run_of (look := fun _ => ()) Tryd.func7 body7 (by show Nat.ble 6 Tryd.f7.ntmps = true; kernel_rfl) hx (.inr rfl) hq
  exact ⟨_, M0, k, hk, specs7 hbs, k1⟩
theorem two {P : Nat → (Code → St → Option (AExit × St)) → Prop} {g h : Code → St → Option (AExit × St)} (h1 : P 0 g) (h2 : P 4 h) : ∀ p ∈ [(0, g), (4, h)], P p.1 p.2 := fun p hp => by
  simp only [List.mem_cons, List.not_mem_nil, or_false] at hp
  rcases hp with rfl | rfl
  · exact h1
  · exact h2
theorem beq_t (b : Bool) : Value.bool (b == b) = .bool true := by cases b <;> rfl
theorem ne_words {N a x c : Int} {es : List E} {y : Int} {ys ws : List Int} (h : walkR N es a x (y :: ys) = some (c, ws)) : ∃ v vs, ws = v :: vs := by
  have := walk_words h
  cases ws with
  | nil => simp at this
  | cons v vs => exact ⟨v, vs, rfl⟩
theorem nil_words {N a x c : Int} {es : List E} {ws : List Int} (h : walkR N es a x [] = some (c, ws)) : ws = [] := List.length_eq_zero_iff.1 (walk_words h)
theorem last_n {N a x : Int} {es : List E} : ∃ c bw, (walkR N es a x [] = none ∧ c = 0 ∧ bw = false) ∨ (walkR N es a x [] = some (c, []) ∧ bw = true) := by
  cases h : walkR N es a x [] with
  | none => exact ⟨0, false, .inl ⟨rfl, rfl, rfl⟩⟩
  | some r =>
    obtain ⟨c, ws⟩ := r
    rw [nil_words h]
    exact ⟨c, true, .inr ⟨rfl, rfl⟩⟩
theorem h15n {bs : List (Nat × (Code → St → Option (AExit × St)))} {D : Nat → Door} {ids : List Nat} {looks : List (Option ABlk)} (sz : Int) : (QV.cr 15 [i64 sz, .slice none 0 0, i64 2] looks (.val (.agg ⟨[i64 (sizeN sz), .slice none 0 0]⟩))).holds Tryd.prog (SP7 bs) D ids := fun _ _ => acall_same rfl
theorem h15call (bs : List (Nat × (Code → St → Option (AExit × St)))) (sz : Int) (n0 : Nat) (ns : List Int) (M : Mem) (hM : M.get 0 = some (ro (ints ns) n0 1)) : onlySpecs (SP7 bs) 15 [i64 sz, sl 0 ns.length, i64 2] M = some (out15 M (sizeN sz) (makeE (sizeN sz) 2 ns)) := by
  have e1 : ints? (((ints ns).drop 0).take ns.length) = some ns := by
    rw [List.drop_zero, ← ints_len, List.take_length]; exact ints?_ints ns
  have e3 : (Nat.beq ns.length ns.length && Nat.ble (0 + ns.length) (ints ns).length && Nat.beq 1 1) = true := by
    rw [ints_len, Nat.beq_refl, Nat.ble_eq_true_of_le (show 0 + ns.length ≤ ns.length by omega)]; rfl
  unfold onlySpecs viaSpecs
  rw [show (SP7 bs).calls 15 = some g15 from rfl]
  simp only
  unfold g15 sl
  simp only [hM, e1, e3, cond_true]
theorem h15e {bs : List (Nat × (Code → St → Option (AExit × St)))} {D : Nat → Door} {t : List Nat} {x : List (Option ABlk)} {sz : Int} {n0 : Nat} {ns : List Int} (hE : makeE (sizeN sz) 2 ns = []) : (QV.cr 15 [i64 sz, sl 0 ns.length, i64 2] (some (ro (ints ns) n0 1) :: x) (.val (.agg ⟨[i64 (sizeN sz), .slice none 0 0]⟩))).holds Tryd.prog (SP7 bs) D (0 :: t) := fun M hM => by
  simp only [List.map_cons, List.cons.injEq] at hM
  refine acall_same ?_
  rw [h15call bs sz n0 ns _ (show ({ M with log := [] } : Mem).get 0 = _ from hM.1), hE]
  rfl
theorem h15s {bs : List (Nat × (Code → St → Option (AExit × St)))} {D : Nat → Door} {t : List Nat} {x : List (Option ABlk)} {sz : Int} {n0 : Nat} {ns : List Int} {e0 : E} {l0 : List E} (hE : makeE (sizeN sz) 2 ns = e0 :: l0) : (QV.ca 15 [i64 sz, sl 0 ns.length, i64 2] (some (ro (ints ns) n0 1) :: x) 3 (.val (.agg ⟨[i64 (sizeN sz), sl 3 (l0.length + 1)]⟩)) (own (ecOf (e0 :: l0)) 31 4)).holds Tryd.prog (SP7 bs) D (0 :: t) := fun M hM hnx => by
  simp only [List.map_cons, List.cons.injEq] at hM
  refine acall_alloc ?_
  rw [h15call bs sz n0 ns _ (show ({ M with log := [] } : Mem).get 0 = _ from hM.1), hE]
  show some (netV (sizeN sz) M.next (e0 :: l0), _) = _
  rw [hnx]
  rfl

theorem main7nnn (sz fr tt : Int)  : Res7 sz fr tt none none none := by
  have hsz := sizeN_range sz
  have ha := modI_range (x := fr) (n := sizeN sz) (by omega)
  have hb := modI_range (x := tt) (n := sizeN sz) (by omega)
  have okF : Ok7 ⟨sizeN sz, [], none, [], fr, tt, modI fr (sizeN sz), modI fr (sizeN sz), modI tt (sizeN sz), 0, 1, false⟩ := ⟨fun h => (by cases h), fun _ => rfl, by simp [rwL], by simp only [rwL, List.length_nil]; first | omega | (simp only [List.length_cons] at hlong ⊢; omega)⟩
  have htc : ints (([] : List Int) ++ rwL none) = [] := rfl
  obtain ⟨c1, ws1, hw1⟩ := walked_walk (d := ([], modI fr (sizeN sz))) ha (⟨ha, 0, [], rfl⟩ : Walked7 (sizeN sz) (modI fr (sizeN sz)) [] ([], modI fr (sizeN sz)))
  obtain rfl := nil_words hw1
  obtain ⟨c2, bw, hw2⟩ := last_n (N := sizeN sz) (a := fr) (x := tt) (es := [])
  exact fin7 (bs := [(0, gX (sizeN sz) fr tt (modI fr (sizeN sz)) none none [] 18), (4, gQ ⟨sizeN sz, [], none, [], fr, tt, modI fr (sizeN sz), modI fr (sizeN sz), modI tt (sizeN sz), 0, 1, false⟩)]) (D := doorM false [0, 4, 4] [] [] [] ([] ++ [] ++ [])) (ids := [0, 2, 3, 5]) (pn := none) (pp := none) (pr := none) (.inr rfl) (fun B => two (blkX7 (sizeN sz) fr tt (modI fr (sizeN sz)) none none [] (.inl rfl) (by decide) B) (blkQ7 ⟨sizeN sz, [], none, [], fr, tt, modI fr (sizeN sz), modI fr (sizeN sz), modI tt (sizeN sz), 0, 1, false⟩ okF B)) (tm_nnnnnn (sizeN sz) sz fr tt (modI fr (sizeN sz)) (modI tt (sizeN sz)) c1 c2 bw _ _) (beq_t _) (by simp only [List.forall_mem_cons]; (repeat' apply And.intro) <;> first | exact h15n sz | exact h18 _ _ (by omega) (by omega) | exact hbX (pp := none) (pr := none) (es := []) rfl rfl (by repeat' first | exact stNil | exact renL_flat _ _ (ints_flat _) | exact renL_flat _ _ (ecOf_flat _) | exact renL_flat _ _ (flat2 _ _) | refine stCons ?_ ?_ | refine renL_c ?_ ?_ | exact renV_sl rfl | exact rfl) | exact hbQ ⟨sizeN sz, [], none, [], fr, tt, modI fr (sizeN sz), modI fr (sizeN sz), modI tt (sizeN sz), 0, 1, false⟩ (SQ7_tc ⟨sizeN sz, [], none, [], fr, tt, modI fr (sizeN sz), modI fr (sizeN sz), modI tt (sizeN sz), 0, 1, false⟩ htc 0 21) (SQ7_tc ⟨sizeN sz, [], none, [], fr, tt, modI fr (sizeN sz), modI fr (sizeN sz), modI tt (sizeN sz), 0, 1, false⟩ htc 4 24) (by repeat' first | exact stNil | exact renL_flat _ _ (ints_flat _) | exact renL_flat _ _ (ecOf_flat _) | exact renL_flat _ _ (flat2 _ _) | refine stCons ?_ ?_ | refine renL_c ?_ ?_ | exact renV_sl rfl | exact rfl) | exact l24n (es := []) (ls := []) (Nat.zero_le _) (.inr ⟨hw1, rfl⟩) | exact l24n (es := []) (ls := []) (Nat.zero_le _) hw2 | exact l25n (es := []) (ls := []) (Nat.zero_le _) hw2 | (intro x hx; cases hx))

theorem main7nns (sz fr tt : Int) (e2 : Nat) (rs : List Int) : Res7 sz fr tt none none (some (e2, rs)) := by
  by_cases hlong : 60 < rs.length
  · exact fin7 (bs := []) (D := noDoors) (ids := []) (pn := none) (pp := none) (pr := (some (e2, rs))) (.inl rfl) (fun _ p hp => by cases hp) (tm_nn_long rs.length e2 (ints rs) sz fr tt) rfl (by simp only [List.forall_mem_cons]; (repeat' apply And.intro) <;> first | exact qd (by omega) | (intro x hx; cases hx))
  have hsz := sizeN_range sz
  have ha := modI_range (x := fr) (n := sizeN sz) (by omega)
  have hb := modI_range (x := tt) (n := sizeN sz) (by omega)
  cases rs with
  | nil =>
    have okF : Ok7 ⟨sizeN sz, [], (some (e2, [])), [], fr, tt, modI fr (sizeN sz), modI fr (sizeN sz), modI tt (sizeN sz), 0, 1, false⟩ := ⟨fun h => (by cases h), fun _ => rfl, by simp [rwL], by simp only [rwL, List.length_nil]; first | omega | (simp only [List.length_cons] at hlong ⊢; omega)⟩
    have htc : ints (([] : List Int) ++ rwL (some (e2, []))) = [] := rfl
    obtain ⟨c1, ws1, hw1⟩ := walked_walk (d := ([], modI fr (sizeN sz))) ha (⟨ha, 0, [], rfl⟩ : Walked7 (sizeN sz) (modI fr (sizeN sz)) [] ([], modI fr (sizeN sz)))
    obtain rfl := nil_words hw1
    obtain ⟨c2, bw, hw2⟩ := last_n (N := sizeN sz) (a := fr) (x := tt) (es := [])
    exact fin7 (bs := [(0, gX (sizeN sz) fr tt (modI fr (sizeN sz)) none (some (e2, [])) [] 18), (4, gQ ⟨sizeN sz, [], (some (e2, [])), [], fr, tt, modI fr (sizeN sz), modI fr (sizeN sz), modI tt (sizeN sz), 0, 1, false⟩)]) (D := doorM false [0, 4, 4] [] [] [(2, 2, true)] ([(2, 2, true)] ++ [] ++ [])) (ids := [0, 2, 3, 5]) (pn := none) (pp := none) (pr := (some (e2, []))) (.inr rfl) (fun B => two (blkX7 (sizeN sz) fr tt (modI fr (sizeN sz)) none (some (e2, [])) [] (.inl rfl) (by decide) B) (blkQ7 ⟨sizeN sz, [], (some (e2, [])), [], fr, tt, modI fr (sizeN sz), modI fr (sizeN sz), modI tt (sizeN sz), 0, 1, false⟩ okF B)) (tm_nnnenn e2 (sizeN sz) sz fr tt (modI fr (sizeN sz)) (modI tt (sizeN sz)) c1 c2 bw _ _) (beq_t _) (by simp only [List.forall_mem_cons]; (repeat' apply And.intro) <;> first | exact h15n sz | exact h18 _ _ (by omega) (by omega) | exact hbX (pp := none) (pr := (some (e2, []))) (es := []) rfl rfl (by repeat' first | exact stNil | exact renL_flat _ _ (ints_flat _) | exact renL_flat _ _ (ecOf_flat _) | exact renL_flat _ _ (flat2 _ _) | refine stCons ?_ ?_ | refine renL_c ?_ ?_ | exact renV_sl rfl | exact rfl) | exact hbQ ⟨sizeN sz, [], (some (e2, [])), [], fr, tt, modI fr (sizeN sz), modI fr (sizeN sz), modI tt (sizeN sz), 0, 1, false⟩ (SQ7_tc ⟨sizeN sz, [], (some (e2, [])), [], fr, tt, modI fr (sizeN sz), modI fr (sizeN sz), modI tt (sizeN sz), 0, 1, false⟩ htc 0 21) (SQ7_tc ⟨sizeN sz, [], (some (e2, [])), [], fr, tt, modI fr (sizeN sz), modI fr (sizeN sz), modI tt (sizeN sz), 0, 1, false⟩ htc 4 24) (by repeat' first | exact stNil | exact renL_flat _ _ (ints_flat _) | exact renL_flat _ _ (ecOf_flat _) | exact renL_flat _ _ (flat2 _ _) | refine stCons ?_ ?_ | refine renL_c ?_ ?_ | exact renV_sl rfl | exact rfl) | exact l24n (es := []) (ls := []) (Nat.zero_le _) (.inr ⟨hw1, rfl⟩) | exact l24n (es := []) (ls := []) (Nat.zero_le _) hw2 | exact l25n (es := []) (ls := []) (Nat.zero_le _) hw2 | (intro x hx; cases hx))
  | cons x l =>
    have okF : Ok7 ⟨sizeN sz, [], (some (e2, x :: l)), [], fr, tt, modI fr (sizeN sz), modI fr (sizeN sz), modI tt (sizeN sz), (0 + (l.length + 1)), (0 + (l.length + 1)), false⟩ := ⟨fun h => (by cases h), fun _ => rfl, by simp [rwL], by simp only [rwL, List.length_nil]; first | omega | (simp only [List.length_cons] at hlong ⊢; omega)⟩
    have htc : ints (([] : List Int) ++ rwL (some (e2, x :: l))) = ([] ++ ints (x :: l)) := rfl
    obtain ⟨c1, ws1, hw1⟩ := walked_walk (d := ([], modI fr (sizeN sz))) ha (⟨ha, 0, [], rfl⟩ : Walked7 (sizeN sz) (modI fr (sizeN sz)) [] ([], modI fr (sizeN sz)))
    obtain rfl := nil_words hw1
    obtain ⟨c2, bw, hw2⟩ := last_n (N := sizeN sz) (a := fr) (x := tt) (es := [])
    exact fin7 (bs := [(0, gX (sizeN sz) fr tt (modI fr (sizeN sz)) none (some (e2, x :: l)) [] 17), (4, gQ ⟨sizeN sz, [], (some (e2, x :: l)), [], fr, tt, modI fr (sizeN sz), modI fr (sizeN sz), modI tt (sizeN sz), (0 + (l.length + 1)), (0 + (l.length + 1)), false⟩)]) (D := doorM false [0, 4, 4] [] [] [(2, 2, true)] ([(2, 2, true)] ++ [] ++ [])) (ids := [0, 2, 3, 5]) (pn := none) (pp := none) (pr := (some (e2, x :: l))) (.inr rfl) (fun B => two (blkX7 (sizeN sz) fr tt (modI fr (sizeN sz)) none (some (e2, x :: l)) [] (.inl rfl) (by decide) B) (blkQ7 ⟨sizeN sz, [], (some (e2, x :: l)), [], fr, tt, modI fr (sizeN sz), modI fr (sizeN sz), modI tt (sizeN sz), (0 + (l.length + 1)), (0 + (l.length + 1)), false⟩ okF B)) (tm_nnnsnn (l.length + 1) e2 (ints (x :: l)) (sizeN sz) sz fr tt (modI fr (sizeN sz)) (modI tt (sizeN sz)) c1 c2 bw _ _) (beq_t _) (by simp only [List.forall_mem_cons]; (repeat' apply And.intro) <;> first | exact h15n sz | exact h18 _ _ (by omega) (by omega) | exact hbX (pp := none) (pr := (some (e2, x :: l))) (es := []) rfl rfl (by repeat' first | exact stNil | exact renL_flat _ _ (ints_flat _) | exact renL_flat _ _ (ecOf_flat _) | exact renL_flat _ _ (flat2 _ _) | refine stCons ?_ ?_ | refine renL_c ?_ ?_ | exact renV_sl rfl | exact rfl) | exact hbQ ⟨sizeN sz, [], (some (e2, x :: l)), [], fr, tt, modI fr (sizeN sz), modI fr (sizeN sz), modI tt (sizeN sz), (0 + (l.length + 1)), (0 + (l.length + 1)), false⟩ (SQ7_tc ⟨sizeN sz, [], (some (e2, x :: l)), [], fr, tt, modI fr (sizeN sz), modI fr (sizeN sz), modI tt (sizeN sz), (0 + (l.length + 1)), (0 + (l.length + 1)), false⟩ htc 0 21) (SQ7_tc ⟨sizeN sz, [], (some (e2, x :: l)), [], fr, tt, modI fr (sizeN sz), modI fr (sizeN sz), modI tt (sizeN sz), (0 + (l.length + 1)), (0 + (l.length + 1)), false⟩ htc 4 24) (by repeat' first | exact stNil | exact renL_flat _ _ (ints_flat _) | exact renL_flat _ _ (ecOf_flat _) | exact renL_flat _ _ (flat2 _ _) | refine stCons ?_ ?_ | refine renL_c ?_ ?_ | exact renV_sl rfl | exact rfl) | exact qdn (by simp only [List.length_cons] at hlong; omega) | exact l24n (es := []) (ls := []) (Nat.zero_le _) (.inr ⟨hw1, rfl⟩) | exact l24n (es := []) (ls := []) (Nat.zero_le _) hw2 | exact l25n (es := []) (ls := []) (Nat.zero_le _) hw2 | exact aapR (len := 0) (n := l.length + 1) (os := []) (xs := x :: l) (.inr ⟨rfl, by omega, rfl⟩) rfl rfl (by simp only [List.length_cons] at hlong; omega) rfl | (intro x hx; cases hx))

theorem main7nsn (sz fr tt : Int) (e1 : Nat) (ps : List Int) : Res7 sz fr tt none (some (e1, ps)) none := by
  have hsz := sizeN_range sz
  have ha := modI_range (x := fr) (n := sizeN sz) (by omega)
  have hb := modI_range (x := tt) (n := sizeN sz) (by omega)
  have okF : Ok7 ⟨sizeN sz, [], none, [], fr, tt, modI fr (sizeN sz), modI fr (sizeN sz), modI tt (sizeN sz), 0, 1, false⟩ := ⟨fun h => (by cases h), fun _ => rfl, by simp [rwL], by simp only [rwL, List.length_nil]; first | omega | (simp only [List.length_cons] at hlong ⊢; omega)⟩
  have htc : ints (([] : List Int) ++ rwL none) = [] := rfl
  obtain ⟨c1, ws1, hw1⟩ := walked_walk (d := ([], modI fr (sizeN sz))) ha (⟨ha, 0, [], rfl⟩ : Walked7 (sizeN sz) (modI fr (sizeN sz)) [] ([], modI fr (sizeN sz)))
  obtain rfl := nil_words hw1
  obtain ⟨c2, bw, hw2⟩ := last_n (N := sizeN sz) (a := fr) (x := tt) (es := [])
  exact fin7 (bs := [(0, gX (sizeN sz) fr tt (modI fr (sizeN sz)) (some (e1, ps)) none [] 18), (4, gQ ⟨sizeN sz, [], none, [], fr, tt, modI fr (sizeN sz), modI fr (sizeN sz), modI tt (sizeN sz), 0, 1, false⟩)]) (D := doorM false [0, 4, 4] [(1, 1, true)] [] [] ([] ++ [] ++ [])) (ids := [0, 2, 3, 5]) (pn := none) (pp := (some (e1, ps))) (pr := none) (.inr rfl) (fun B => two (blkX7 (sizeN sz) fr tt (modI fr (sizeN sz)) (some (e1, ps)) none [] (.inr rfl) (by decide) B) (blkQ7 ⟨sizeN sz, [], none, [], fr, tt, modI fr (sizeN sz), modI fr (sizeN sz), modI tt (sizeN sz), 0, 1, false⟩ okF B)) (tm_nsnnnn ps.length e1 (ints ps) (sizeN sz) sz fr tt (modI fr (sizeN sz)) (modI tt (sizeN sz)) c1 c2 bw _ _) (beq_t _) (by simp only [List.forall_mem_cons]; (repeat' apply And.intro) <;> first | exact h15n sz | exact h18 _ _ (by omega) (by omega) | exact hbX (pp := (some (e1, ps))) (pr := none) (es := []) rfl rfl (by repeat' first | exact stNil | exact renL_flat _ _ (ints_flat _) | exact renL_flat _ _ (ecOf_flat _) | exact renL_flat _ _ (flat2 _ _) | refine stCons ?_ ?_ | refine renL_c ?_ ?_ | exact renV_sl rfl | exact rfl) | exact hbQ ⟨sizeN sz, [], none, [], fr, tt, modI fr (sizeN sz), modI fr (sizeN sz), modI tt (sizeN sz), 0, 1, false⟩ (SQ7_tc ⟨sizeN sz, [], none, [], fr, tt, modI fr (sizeN sz), modI fr (sizeN sz), modI tt (sizeN sz), 0, 1, false⟩ htc 0 21) (SQ7_tc ⟨sizeN sz, [], none, [], fr, tt, modI fr (sizeN sz), modI fr (sizeN sz), modI tt (sizeN sz), 0, 1, false⟩ htc 4 24) (by repeat' first | exact stNil | exact renL_flat _ _ (ints_flat _) | exact renL_flat _ _ (ecOf_flat _) | exact renL_flat _ _ (flat2 _ _) | refine stCons ?_ ?_ | refine renL_c ?_ ?_ | exact renV_sl rfl | exact rfl) | exact l24n (es := []) (ls := []) (Nat.zero_le _) (.inr ⟨hw1, rfl⟩) | exact l24n (es := []) (ls := []) (Nat.zero_le _) hw2 | exact l25n (es := []) (ls := []) (Nat.zero_le _) hw2 | (intro x hx; cases hx))

theorem main7nss (sz fr tt : Int) (e1 : Nat) (ps : List Int) (e2 : Nat) (rs : List Int) : Res7 sz fr tt none (some (e1, ps)) (some (e2, rs)) := by
  by_cases hlong : 60 < rs.length
  · exact fin7 (bs := []) (D := noDoors) (ids := []) (pn := none) (pp := (some (e1, ps))) (pr := (some (e2, rs))) (.inl rfl) (fun _ p hp => by cases hp) (tm_ns_long ps.length rs.length e1 e2 (ints ps) (ints rs) sz fr tt) rfl (by simp only [List.forall_mem_cons]; (repeat' apply And.intro) <;> first | exact qd (by omega) | (intro x hx; cases hx))
  have hsz := sizeN_range sz
  have ha := modI_range (x := fr) (n := sizeN sz) (by omega)
  have hb := modI_range (x := tt) (n := sizeN sz) (by omega)
  cases rs with
  | nil =>
    have okF : Ok7 ⟨sizeN sz, [], (some (e2, [])), [], fr, tt, modI fr (sizeN sz), modI fr (sizeN sz), modI tt (sizeN sz), 0, 1, false⟩ := ⟨fun h => (by cases h), fun _ => rfl, by simp [rwL], by simp only [rwL, List.length_nil]; first | omega | (simp only [List.length_cons] at hlong ⊢; omega)⟩
    have htc : ints (([] : List Int) ++ rwL (some (e2, []))) = [] := rfl
    obtain ⟨c1, ws1, hw1⟩ := walked_walk (d := ([], modI fr (sizeN sz))) ha (⟨ha, 0, [], rfl⟩ : Walked7 (sizeN sz) (modI fr (sizeN sz)) [] ([], modI fr (sizeN sz)))
    obtain rfl := nil_words hw1
    obtain ⟨c2, bw, hw2⟩ := last_n (N := sizeN sz) (a := fr) (x := tt) (es := [])
    exact fin7 (bs := [(0, gX (sizeN sz) fr tt (modI fr (sizeN sz)) (some (e1, ps)) (some (e2, [])) [] 18), (4, gQ ⟨sizeN sz, [], (some (e2, [])), [], fr, tt, modI fr (sizeN sz), modI fr (sizeN sz), modI tt (sizeN sz), 0, 1, false⟩)]) (D := doorM false [0, 4, 4] [(1, 1, true)] [] [(2, 2, true)] ([(2, 2, true)] ++ [] ++ [])) (ids := [0, 2, 3, 5]) (pn := none) (pp := (some (e1, ps))) (pr := (some (e2, []))) (.inr rfl) (fun B => two (blkX7 (sizeN sz) fr tt (modI fr (sizeN sz)) (some (e1, ps)) (some (e2, [])) [] (.inr rfl) (by decide) B) (blkQ7 ⟨sizeN sz, [], (some (e2, [])), [], fr, tt, modI fr (sizeN sz), modI fr (sizeN sz), modI tt (sizeN sz), 0, 1, false⟩ okF B)) (tm_nsnenn ps.length e1 e2 (ints ps) (sizeN sz) sz fr tt (modI fr (sizeN sz)) (modI tt (sizeN sz)) c1 c2 bw _ _) (beq_t _) (by simp only [List.forall_mem_cons]; (repeat' apply And.intro) <;> first | exact h15n sz | exact h18 _ _ (by omega) (by omega) | exact hbX (pp := (some (e1, ps))) (pr := (some (e2, []))) (es := []) rfl rfl (by repeat' first | exact stNil | exact renL_flat _ _ (ints_flat _) | exact renL_flat _ _ (ecOf_flat _) | exact renL_flat _ _ (flat2 _ _) | refine stCons ?_ ?_ | refine renL_c ?_ ?_ | exact renV_sl rfl | exact rfl) | exact hbQ ⟨sizeN sz, [], (some (e2, [])), [], fr, tt, modI fr (sizeN sz), modI fr (sizeN sz), modI tt (sizeN sz), 0, 1, false⟩ (SQ7_tc ⟨sizeN sz, [], (some (e2, [])), [], fr, tt, modI fr (sizeN sz), modI fr (sizeN sz), modI tt (sizeN sz), 0, 1, false⟩ htc 0 21) (SQ7_tc ⟨sizeN sz, [], (some (e2, [])), [], fr, tt, modI fr (sizeN sz), modI fr (sizeN sz), modI tt (sizeN sz), 0, 1, false⟩ htc 4 24) (by repeat' first | exact stNil | exact renL_flat _ _ (ints_flat _) | exact renL_flat _ _ (ecOf_flat _) | exact renL_flat _ _ (flat2 _ _) | refine stCons ?_ ?_ | refine renL_c ?_ ?_ | exact renV_sl rfl | exact rfl) | exact l24n (es := []) (ls := []) (Nat.zero_le _) (.inr ⟨hw1, rfl⟩) | exact l24n (es := []) (ls := []) (Nat.zero_le _) hw2 | exact l25n (es := []) (ls := []) (Nat.zero_le _) hw2 | (intro x hx; cases hx))
  | cons x l =>
    have okF : Ok7 ⟨sizeN sz, [], (some (e2, x :: l)), [], fr, tt, modI fr (sizeN sz), modI fr (sizeN sz), modI tt (sizeN sz), (0 + (l.length + 1)), (0 + (l.length + 1)), false⟩ := ⟨fun h => (by cases h), fun _ => rfl, by simp [rwL], by simp only [rwL, List.length_nil]; first | omega | (simp only [List.length_cons] at hlong ⊢; omega)⟩
    have htc : ints (([] : List Int) ++ rwL (some (e2, x :: l))) = ([] ++ ints (x :: l)) := rfl
    obtain ⟨c1, ws1, hw1⟩ := walked_walk (d := ([], modI fr (sizeN sz))) ha (⟨ha, 0, [], rfl⟩ : Walked7 (sizeN sz) (modI fr (sizeN sz)) [] ([], modI fr (sizeN sz)))
    obtain rfl := nil_words hw1
    obtain ⟨c2, bw, hw2⟩ := last_n (N := sizeN sz) (a := fr) (x := tt) (es := [])
    exact fin7 (bs := [(0, gX (sizeN sz) fr tt (modI fr (sizeN sz)) (some (e1, ps)) (some (e2, x :: l)) [] 17), (4, gQ ⟨sizeN sz, [], (some (e2, x :: l)), [], fr, tt, modI fr (sizeN sz), modI fr (sizeN sz), modI tt (sizeN sz), (0 + (l.length + 1)), (0 + (l.length + 1)), false⟩)]) (D := doorM false [0, 4, 4] [(1, 1, true)] [] [(2, 2, true)] ([(2, 2, true)] ++ [] ++ [])) (ids := [0, 2, 3, 5]) (pn := none) (pp := (some (e1, ps))) (pr := (some (e2, x :: l))) (.inr rfl) (fun B => two (blkX7 (sizeN sz) fr tt (modI fr (sizeN sz)) (some (e1, ps)) (some (e2, x :: l)) [] (.inr rfl) (by decide) B) (blkQ7 ⟨sizeN sz, [], (some (e2, x :: l)), [], fr, tt, modI fr (sizeN sz), modI fr (sizeN sz), modI tt (sizeN sz), (0 + (l.length + 1)), (0 + (l.length + 1)), false⟩ okF B)) (tm_nsnsnn ps.length (l.length + 1) e1 e2 (ints ps) (ints (x :: l)) (sizeN sz) sz fr tt (modI fr (sizeN sz)) (modI tt (sizeN sz)) c1 c2 bw _ _) (beq_t _) (by simp only [List.forall_mem_cons]; (repeat' apply And.intro) <;> first | exact h15n sz | exact h18 _ _ (by omega) (by omega) | exact hbX (pp := (some (e1, ps))) (pr := (some (e2, x :: l))) (es := []) rfl rfl (by repeat' first | exact stNil | exact renL_flat _ _ (ints_flat _) | exact renL_flat _ _ (ecOf_flat _) | exact renL_flat _ _ (flat2 _ _) | refine stCons ?_ ?_ | refine renL_c ?_ ?_ | exact renV_sl rfl | exact rfl) | exact hbQ ⟨sizeN sz, [], (some (e2, x :: l)), [], fr, tt, modI fr (sizeN sz), modI fr (sizeN sz), modI tt (sizeN sz), (0 + (l.length + 1)), (0 + (l.length + 1)), false⟩ (SQ7_tc ⟨sizeN sz, [], (some (e2, x :: l)), [], fr, tt, modI fr (sizeN sz), modI fr (sizeN sz), modI tt (sizeN sz), (0 + (l.length + 1)), (0 + (l.length + 1)), false⟩ htc 0 21) (SQ7_tc ⟨sizeN sz, [], (some (e2, x :: l)), [], fr, tt, modI fr (sizeN sz), modI fr (sizeN sz), modI tt (sizeN sz), (0 + (l.length + 1)), (0 + (l.length + 1)), false⟩ htc 4 24) (by repeat' first | exact stNil | exact renL_flat _ _ (ints_flat _) | exact renL_flat _ _ (ecOf_flat _) | exact renL_flat _ _ (flat2 _ _) | refine stCons ?_ ?_ | refine renL_c ?_ ?_ | exact renV_sl rfl | exact rfl) | exact qdn (by simp only [List.length_cons] at hlong; omega) | exact l24n (es := []) (ls := []) (Nat.zero_le _) (.inr ⟨hw1, rfl⟩) | exact l24n (es := []) (ls := []) (Nat.zero_le _) hw2 | exact l25n (es := []) (ls := []) (Nat.zero_le _) hw2 | exact aapR (len := 0) (n := l.length + 1) (os := []) (xs := x :: l) (.inr ⟨rfl, by omega, rfl⟩) rfl rfl (by simp only [List.length_cons] at hlong; omega) rfl | (intro x hx; cases hx))

theorem main7snn (sz fr tt : Int) (n0 : Nat) (ns : List Int) : Res7 sz fr tt (some (n0, ns)) none none := by
  have hsz := sizeN_range sz
  have ha := modI_range (x := fr) (n := sizeN sz) (by omega)
  have hb := modI_range (x := tt) (n := sizeN sz) (by omega)
  have hmk := make_ok sz 2 ns
  have hml := make_len (sizeN sz) 2 ns
  cases hE : makeE (sizeN sz) 2 ns with
  | nil =>
    have okF : Ok7 ⟨sizeN sz, [], none, [], fr, tt, modI fr (sizeN sz), modI fr (sizeN sz), modI tt (sizeN sz), 0, 1, false⟩ := ⟨fun h => (by cases h), fun _ => rfl, by simp [rwL], by simp only [rwL, List.length_nil]; first | omega | (simp only [List.length_cons] at hlong ⊢; omega)⟩
    have htc : ints (([] : List Int) ++ rwL none) = [] := rfl
    obtain ⟨c1, ws1, hw1⟩ := walked_walk (d := ([], modI fr (sizeN sz))) ha (⟨ha, 0, [], rfl⟩ : Walked7 (sizeN sz) (modI fr (sizeN sz)) [] ([], modI fr (sizeN sz)))
    obtain rfl := nil_words hw1
    obtain ⟨c2, bw, hw2⟩ := last_n (N := sizeN sz) (a := fr) (x := tt) (es := [])
    exact fin7 (bs := [(0, gX (sizeN sz) fr tt (modI fr (sizeN sz)) none none [] 18), (4, gQ ⟨sizeN sz, [], none, [], fr, tt, modI fr (sizeN sz), modI fr (sizeN sz), modI tt (sizeN sz), 0, 1, false⟩)]) (D := doorM false [0, 4, 4] [] [] [] ([] ++ [] ++ [])) (ids := [0, 2, 3, 5]) (pn := (some (n0, ns))) (pp := none) (pr := none) (.inr rfl) (fun B => two (blkX7 (sizeN sz) fr tt (modI fr (sizeN sz)) none none [] (.inl rfl) (by decide) B) (blkQ7 ⟨sizeN sz, [], none, [], fr, tt, modI fr (sizeN sz), modI fr (sizeN sz), modI tt (sizeN sz), 0, 1, false⟩ okF B)) (tm_snnnnn ns.length n0 (ints ns) (sizeN sz) sz fr tt (modI fr (sizeN sz)) (modI tt (sizeN sz)) c1 c2 bw _ _) (beq_t _) (by simp only [List.forall_mem_cons]; (repeat' apply And.intro) <;> first | exact h15e hE | exact h18 _ _ (by omega) (by omega) | exact hbX (pp := none) (pr := none) (es := []) rfl rfl (by repeat' first | exact stNil | exact renL_flat _ _ (ints_flat _) | exact renL_flat _ _ (ecOf_flat _) | exact renL_flat _ _ (flat2 _ _) | refine stCons ?_ ?_ | refine renL_c ?_ ?_ | exact renV_sl rfl | exact rfl) | exact hbQ ⟨sizeN sz, [], none, [], fr, tt, modI fr (sizeN sz), modI fr (sizeN sz), modI tt (sizeN sz), 0, 1, false⟩ (SQ7_tc ⟨sizeN sz, [], none, [], fr, tt, modI fr (sizeN sz), modI fr (sizeN sz), modI tt (sizeN sz), 0, 1, false⟩ htc 0 21) (SQ7_tc ⟨sizeN sz, [], none, [], fr, tt, modI fr (sizeN sz), modI fr (sizeN sz), modI tt (sizeN sz), 0, 1, false⟩ htc 4 24) (by repeat' first | exact stNil | exact renL_flat _ _ (ints_flat _) | exact renL_flat _ _ (ecOf_flat _) | exact renL_flat _ _ (flat2 _ _) | refine stCons ?_ ?_ | refine renL_c ?_ ?_ | exact renV_sl rfl | exact rfl) | exact l24n (es := []) (ls := []) (Nat.zero_le _) (.inr ⟨hw1, rfl⟩) | exact l24n (es := []) (ls := []) (Nat.zero_le _) hw2 | exact l25n (es := []) (ls := []) (Nat.zero_le _) hw2 | (intro x hx; cases hx))
  | cons e0 l0 =>
    have okF : Ok7 ⟨sizeN sz, (e0 :: l0), none, [], fr, tt, modI fr (sizeN sz), modI fr (sizeN sz), modI tt (sizeN sz), 0, 1, false⟩ := ⟨fun h => (by cases h), fun _ => rfl, by simp [rwL], by simp only [rwL, List.length_nil]; first | omega | (simp only [List.length_cons] at hlong ⊢; omega)⟩
    have htc : ints (([] : List Int) ++ rwL none) = [] := rfl
    obtain ⟨c1, ws1, hw1⟩ := walked_walk (d := ([], modI fr (sizeN sz))) ha (⟨ha, 0, [], rfl⟩ : Walked7 (sizeN sz) (modI fr (sizeN sz)) (e0 :: l0) ([], modI fr (sizeN sz)))
    obtain rfl := nil_words hw1
    obtain ⟨c2, bw, hw2⟩ := last_n (N := sizeN sz) (a := fr) (x := tt) (es := (e0 :: l0))
    exact fin7 (bs := [(0, gX (sizeN sz) fr tt (modI fr (sizeN sz)) none none (e0 :: l0) 18), (4, gQ ⟨sizeN sz, (e0 :: l0), none, [], fr, tt, modI fr (sizeN sz), modI fr (sizeN sz), modI tt (sizeN sz), 0, 1, false⟩)]) (D := doorM false [0, 4, 4] [] [(3, 3, true)] [] ([] ++ [(3, 3, true)] ++ [])) (ids := [0, 2, 3, 5]) (pn := (some (n0, ns))) (pp := none) (pr := none) (.inl rfl) (fun B => two (blkX7 (sizeN sz) fr tt (modI fr (sizeN sz)) none none (e0 :: l0) (.inl rfl) (by decide) B) (blkQ7 ⟨sizeN sz, (e0 :: l0), none, [], fr, tt, modI fr (sizeN sz), modI fr (sizeN sz), modI tt (sizeN sz), 0, 1, false⟩ okF B)) (tm_snsnnn (l0.length + 1) ns.length n0 (ecOf (e0 :: l0)) (ints ns) (sizeN sz) sz fr tt (modI fr (sizeN sz)) (modI tt (sizeN sz)) c1 c2 bw _ _) (beq_t _) (by simp only [List.forall_mem_cons]; (repeat' apply And.intro) <;> first | exact h15s hE | exact h18 _ _ (by omega) (by omega) | exact hbX (pp := none) (pr := none) (es := (e0 :: l0)) rfl rfl (by repeat' first | exact stNil | exact renL_flat _ _ (ints_flat _) | exact renL_flat _ _ (ecOf_flat _) | exact renL_flat _ _ (flat2 _ _) | refine stCons ?_ ?_ | refine renL_c ?_ ?_ | exact renV_sl rfl | exact rfl) | exact hbQ ⟨sizeN sz, (e0 :: l0), none, [], fr, tt, modI fr (sizeN sz), modI fr (sizeN sz), modI tt (sizeN sz), 0, 1, false⟩ (SQ7_tc ⟨sizeN sz, (e0 :: l0), none, [], fr, tt, modI fr (sizeN sz), modI fr (sizeN sz), modI tt (sizeN sz), 0, 1, false⟩ htc 0 21) (SQ7_tc ⟨sizeN sz, (e0 :: l0), none, [], fr, tt, modI fr (sizeN sz), modI fr (sizeN sz), modI tt (sizeN sz), 0, 1, false⟩ htc 4 24) (by repeat' first | exact stNil | exact renL_flat _ _ (ints_flat _) | exact renL_flat _ _ (ecOf_flat _) | exact renL_flat _ _ (flat2 _ _) | refine stCons ?_ ?_ | refine renL_c ?_ ?_ | exact renV_sl rfl | exact rfl) | exact l24n (es := (e0 :: l0)) (ls := []) (Nat.zero_le _) (.inr ⟨hw1, rfl⟩) | exact l24n (es := (e0 :: l0)) (ls := []) (Nat.zero_le _) hw2 | exact l25n (es := (e0 :: l0)) (ls := []) (Nat.zero_le _) hw2 | (intro x hx; cases hx))

theorem main7sns (sz fr tt : Int) (n0 : Nat) (ns : List Int) (e2 : Nat) (rs : List Int) : Res7 sz fr tt (some (n0, ns)) none (some (e2, rs)) := by
  by_cases hlong : 60 < rs.length
  · exact fin7 (bs := []) (D := noDoors) (ids := []) (pn := (some (n0, ns))) (pp := none) (pr := (some (e2, rs))) (.inl rfl) (fun _ p hp => by cases hp) (tm_sn_long rs.length ns.length e2 n0 (ints rs) (ints ns) sz fr tt) rfl (by simp only [List.forall_mem_cons]; (repeat' apply And.intro) <;> first | exact qd (by omega) | (intro x hx; cases hx))
  have hsz := sizeN_range sz
  have ha := modI_range (x := fr) (n := sizeN sz) (by omega)
  have hb := modI_range (x := tt) (n := sizeN sz) (by omega)
  have hmk := make_ok sz 2 ns
  have hml := make_len (sizeN sz) 2 ns
  cases hE : makeE (sizeN sz) 2 ns with
  | nil =>
    cases rs with
    | nil =>
      have okF : Ok7 ⟨sizeN sz, [], (some (e2, [])), [], fr, tt, modI fr (sizeN sz), modI fr (sizeN sz), modI tt (sizeN sz), 0, 1, false⟩ := ⟨fun h => (by cases h), fun _ => rfl, by simp [rwL], by simp only [rwL, List.length_nil]; first | omega | (simp only [List.length_cons] at hlong ⊢; omega)⟩
      have htc : ints (([] : List Int) ++ rwL (some (e2, []))) = [] := rfl
      obtain ⟨c1, ws1, hw1⟩ := walked_walk (d := ([], modI fr (sizeN sz))) ha (⟨ha, 0, [], rfl⟩ : Walked7 (sizeN sz) (modI fr (sizeN sz)) [] ([], modI fr (sizeN sz)))
      obtain rfl := nil_words hw1
      obtain ⟨c2, bw, hw2⟩ := last_n (N := sizeN sz) (a := fr) (x := tt) (es := [])
      exact fin7 (bs := [(0, gX (sizeN sz) fr tt (modI fr (sizeN sz)) none (some (e2, [])) [] 18), (4, gQ ⟨sizeN sz, [], (some (e2, [])), [], fr, tt, modI fr (sizeN sz), modI fr (sizeN sz), modI tt (sizeN sz), 0, 1, false⟩)]) (D := doorM false [0, 4, 4] [] [] [(2, 2, true)] ([(2, 2, true)] ++ [] ++ [])) (ids := [0, 2, 3, 5]) (pn := (some (n0, ns))) (pp := none) (pr := (some (e2, []))) (.inr rfl) (fun B => two (blkX7 (sizeN sz) fr tt (modI fr (sizeN sz)) none (some (e2, [])) [] (.inl rfl) (by decide) B) (blkQ7 ⟨sizeN sz, [], (some (e2, [])), [], fr, tt, modI fr (sizeN sz), modI fr (sizeN sz), modI tt (sizeN sz), 0, 1, false⟩ okF B)) (tm_snnenn ns.length e2 n0 (ints ns) (sizeN sz) sz fr tt (modI fr (sizeN sz)) (modI tt (sizeN sz)) c1 c2 bw _ _) (beq_t _) (by simp only [List.forall_mem_cons]; (repeat' apply And.intro) <;> first | exact h15e hE | exact h18 _ _ (by omega) (by omega) | exact hbX (pp := none) (pr := (some (e2, []))) (es := []) rfl rfl (by repeat' first | exact stNil | exact renL_flat _ _ (ints_flat _) | exact renL_flat _ _ (ecOf_flat _) | exact renL_flat _ _ (flat2 _ _) | refine stCons ?_ ?_ | refine renL_c ?_ ?_ | exact renV_sl rfl | exact rfl) | exact hbQ ⟨sizeN sz, [], (some (e2, [])), [], fr, tt, modI fr (sizeN sz), modI fr (sizeN sz), modI tt (sizeN sz), 0, 1, false⟩ (SQ7_tc ⟨sizeN sz, [], (some (e2, [])), [], fr, tt, modI fr (sizeN sz), modI fr (sizeN sz), modI tt (sizeN sz), 0, 1, false⟩ htc 0 21) (SQ7_tc ⟨sizeN sz, [], (some (e2, [])), [], fr, tt, modI fr (sizeN sz), modI fr (sizeN sz), modI tt (sizeN sz), 0, 1, false⟩ htc 4 24) (by repeat' first | exact stNil | exact renL_flat _ _ (ints_flat _) | exact renL_flat _ _ (ecOf_flat _) | exact renL_flat _ _ (flat2 _ _) | refine stCons ?_ ?_ | refine renL_c ?_ ?_ | exact renV_sl rfl | exact rfl) | exact l24n (es := []) (ls := []) (Nat.zero_le _) (.inr ⟨hw1, rfl⟩) | exact l24n (es := []) (ls := []) (Nat.zero_le _) hw2 | exact l25n (es := []) (ls := []) (Nat.zero_le _) hw2 | (intro x hx; cases hx))
    | cons x l =>
      have okF : Ok7 ⟨sizeN sz, [], (some (e2, x :: l)), [], fr, tt, modI fr (sizeN sz), modI fr (sizeN sz), modI tt (sizeN sz), (0 + (l.length + 1)), (0 + (l.length + 1)), false⟩ := ⟨fun h => (by cases h), fun _ => rfl, by simp [rwL], by simp only [rwL, List.length_nil]; first | omega | (simp only [List.length_cons] at hlong ⊢; omega)⟩
      have htc : ints (([] : List Int) ++ rwL (some (e2, x :: l))) = ([] ++ ints (x :: l)) := rfl
      obtain ⟨c1, ws1, hw1⟩ := walked_walk (d := ([], modI fr (sizeN sz))) ha (⟨ha, 0, [], rfl⟩ : Walked7 (sizeN sz) (modI fr (sizeN sz)) [] ([], modI fr (sizeN sz)))
      obtain rfl := nil_words hw1
      obtain ⟨c2, bw, hw2⟩ := last_n (N := sizeN sz) (a := fr) (x := tt) (es := [])
      exact fin7 (bs := [(0, gX (sizeN sz) fr tt (modI fr (sizeN sz)) none (some (e2, x :: l)) [] 17), (4, gQ ⟨sizeN sz, [], (some (e2, x :: l)), [], fr, tt, modI fr (sizeN sz), modI fr (sizeN sz), modI tt (sizeN sz), (0 + (l.length + 1)), (0 + (l.length + 1)), false⟩)]) (D := doorM false [0, 4, 4] [] [] [(2, 2, true)] ([(2, 2, true)] ++ [] ++ [])) (ids := [0, 2, 3, 5]) (pn := (some (n0, ns))) (pp := none) (pr := (some (e2, x :: l))) (.inr rfl) (fun B => two (blkX7 (sizeN sz) fr tt (modI fr (sizeN sz)) none (some (e2, x :: l)) [] (.inl rfl) (by decide) B) (blkQ7 ⟨sizeN sz, [], (some (e2, x :: l)), [], fr, tt, modI fr (sizeN sz), modI fr (sizeN sz), modI tt (sizeN sz), (0 + (l.length + 1)), (0 + (l.length + 1)), false⟩ okF B)) (tm_snnsnn (l.length + 1) ns.length e2 n0 (ints (x :: l)) (ints ns) (sizeN sz) sz fr tt (modI fr (sizeN sz)) (modI tt (sizeN sz)) c1 c2 bw _ _) (beq_t _) (by simp only [List.forall_mem_cons]; (repeat' apply And.intro) <;> first | exact h15e hE | exact h18 _ _ (by omega) (by omega) | exact hbX (pp := none) (pr := (some (e2, x :: l))) (es := []) rfl rfl (by repeat' first | exact stNil | exact renL_flat _ _ (ints_flat _) | exact renL_flat _ _ (ecOf_flat _) | exact renL_flat _ _ (flat2 _ _) | refine stCons ?_ ?_ | refine renL_c ?_ ?_ | exact renV_sl rfl | exact rfl) | exact hbQ ⟨sizeN sz, [], (some (e2, x :: l)), [], fr, tt, modI fr (sizeN sz), modI fr (sizeN sz), modI tt (sizeN sz), (0 + (l.length + 1)), (0 + (l.length + 1)), false⟩ (SQ7_tc ⟨sizeN sz, [], (some (e2, x :: l)), [], fr, tt, modI fr (sizeN sz), modI fr (sizeN sz), modI tt (sizeN sz), (0 + (l.length + 1)), (0 + (l.length + 1)), false⟩ htc 0 21) (SQ7_tc ⟨sizeN sz, [], (some (e2, x :: l)), [], fr, tt, modI fr (sizeN sz), modI fr (sizeN sz), modI tt (sizeN sz), (0 + (l.length + 1)), (0 + (l.length + 1)), false⟩ htc 4 24) (by repeat' first | exact stNil | exact renL_flat _ _ (ints_flat _) | exact renL_flat _ _ (ecOf_flat _) | exact renL_flat _ _ (flat2 _ _) | refine stCons ?_ ?_ | refine renL_c ?_ ?_ | exact renV_sl rfl | exact rfl) | exact qdn (by simp only [List.length_cons] at hlong; omega) | exact l24n (es := []) (ls := []) (Nat.zero_le _) (.inr ⟨hw1, rfl⟩) | exact l24n (es := []) (ls := []) (Nat.zero_le _) hw2 | exact l25n (es := []) (ls := []) (Nat.zero_le _) hw2 | exact aapR (len := 0) (n := l.length + 1) (os := []) (xs := x :: l) (.inr ⟨rfl, by omega, rfl⟩) rfl rfl (by simp only [List.length_cons] at hlong; omega) rfl | (intro x hx; cases hx))
  | cons e0 l0 =>
    cases rs with
    | nil =>
      have okF : Ok7 ⟨sizeN sz, (e0 :: l0), (some (e2, [])), [], fr, tt, modI fr (sizeN sz), modI fr (sizeN sz), modI tt (sizeN sz), 0, 1, false⟩ := ⟨fun h => (by cases h), fun _ => rfl, by simp [rwL], by simp only [rwL, List.length_nil]; first | omega | (simp only [List.length_cons] at hlong ⊢; omega)⟩
      have htc : ints (([] : List Int) ++ rwL (some (e2, []))) = [] := rfl
      obtain ⟨c1, ws1, hw1⟩ := walked_walk (d := ([], modI fr (sizeN sz))) ha (⟨ha, 0, [], rfl⟩ : Walked7 (sizeN sz) (modI fr (sizeN sz)) (e0 :: l0) ([], modI fr (sizeN sz)))
      obtain rfl := nil_words hw1
      obtain ⟨c2, bw, hw2⟩ := last_n (N := sizeN sz) (a := fr) (x := tt) (es := (e0 :: l0))
      exact fin7 (bs := [(0, gX (sizeN sz) fr tt (modI fr (sizeN sz)) none (some (e2, [])) (e0 :: l0) 18), (4, gQ ⟨sizeN sz, (e0 :: l0), (some (e2, [])), [], fr, tt, modI fr (sizeN sz), modI fr (sizeN sz), modI tt (sizeN sz), 0, 1, false⟩)]) (D := doorM false [0, 4, 4] [] [(3, 3, true)] [(2, 2, true)] ([(2, 2, true)] ++ [(3, 3, true)] ++ [])) (ids := [0, 2, 3, 5]) (pn := (some (n0, ns))) (pp := none) (pr := (some (e2, []))) (.inl rfl) (fun B => two (blkX7 (sizeN sz) fr tt (modI fr (sizeN sz)) none (some (e2, [])) (e0 :: l0) (.inl rfl) (by decide) B) (blkQ7 ⟨sizeN sz, (e0 :: l0), (some (e2, [])), [], fr, tt, modI fr (sizeN sz), modI fr (sizeN sz), modI tt (sizeN sz), 0, 1, false⟩ okF B)) (tm_snsenn (l0.length + 1) ns.length e2 n0 (ecOf (e0 :: l0)) (ints ns) (sizeN sz) sz fr tt (modI fr (sizeN sz)) (modI tt (sizeN sz)) c1 c2 bw _ _) (beq_t _) (by simp only [List.forall_mem_cons]; (repeat' apply And.intro) <;> first | exact h15s hE | exact h18 _ _ (by omega) (by omega) | exact hbX (pp := none) (pr := (some (e2, []))) (es := (e0 :: l0)) rfl rfl (by repeat' first | exact stNil | exact renL_flat _ _ (ints_flat _) | exact renL_flat _ _ (ecOf_flat _) | exact renL_flat _ _ (flat2 _ _) | refine stCons ?_ ?_ | refine renL_c ?_ ?_ | exact renV_sl rfl | exact rfl) | exact hbQ ⟨sizeN sz, (e0 :: l0), (some (e2, [])), [], fr, tt, modI fr (sizeN sz), modI fr (sizeN sz), modI tt (sizeN sz), 0, 1, false⟩ (SQ7_tc ⟨sizeN sz, (e0 :: l0), (some (e2, [])), [], fr, tt, modI fr (sizeN sz), modI fr (sizeN sz), modI tt (sizeN sz), 0, 1, false⟩ htc 0 21) (SQ7_tc ⟨sizeN sz, (e0 :: l0), (some (e2, [])), [], fr, tt, modI fr (sizeN sz), modI fr (sizeN sz), modI tt (sizeN sz), 0, 1, false⟩ htc 4 24) (by repeat' first | exact stNil | exact renL_flat _ _ (ints_flat _) | exact renL_flat _ _ (ecOf_flat _) | exact renL_flat _ _ (flat2 _ _) | refine stCons ?_ ?_ | refine renL_c ?_ ?_ | exact renV_sl rfl | exact rfl) | exact l24n (es := (e0 :: l0)) (ls := []) (Nat.zero_le _) (.inr ⟨hw1, rfl⟩) | exact l24n (es := (e0 :: l0)) (ls := []) (Nat.zero_le _) hw2 | exact l25n (es := (e0 :: l0)) (ls := []) (Nat.zero_le _) hw2 | (intro x hx; cases hx))
    | cons x l =>
      have okF : Ok7 ⟨sizeN sz, (e0 :: l0), (some (e2, x :: l)), [], fr, tt, modI fr (sizeN sz), modI fr (sizeN sz), modI tt (sizeN sz), (0 + (l.length + 1)), (0 + (l.length + 1)), false⟩ := ⟨fun h => (by cases h), fun _ => rfl, by simp [rwL], by simp only [rwL, List.length_nil]; first | omega | (simp only [List.length_cons] at hlong ⊢; omega)⟩
      have htc : ints (([] : List Int) ++ rwL (some (e2, x :: l))) = ([] ++ ints (x :: l)) := rfl
      obtain ⟨c1, ws1, hw1⟩ := walked_walk (d := ([], modI fr (sizeN sz))) ha (⟨ha, 0, [], rfl⟩ : Walked7 (sizeN sz) (modI fr (sizeN sz)) (e0 :: l0) ([], modI fr (sizeN sz)))
      obtain rfl := nil_words hw1
      obtain ⟨c2, bw, hw2⟩ := last_n (N := sizeN sz) (a := fr) (x := tt) (es := (e0 :: l0))
      exact fin7 (bs := [(0, gX (sizeN sz) fr tt (modI fr (sizeN sz)) none (some (e2, x :: l)) (e0 :: l0) 17), (4, gQ ⟨sizeN sz, (e0 :: l0), (some (e2, x :: l)), [], fr, tt, modI fr (sizeN sz), modI fr (sizeN sz), modI tt (sizeN sz), (0 + (l.length + 1)), (0 + (l.length + 1)), false⟩)]) (D := doorM false [0, 4, 4] [] [(3, 3, true)] [(2, 2, true)] ([(2, 2, true)] ++ [(3, 3, true)] ++ [])) (ids := [0, 2, 3, 5]) (pn := (some (n0, ns))) (pp := none) (pr := (some (e2, x :: l))) (.inl rfl) (fun B => two (blkX7 (sizeN sz) fr tt (modI fr (sizeN sz)) none (some (e2, x :: l)) (e0 :: l0) (.inl rfl) (by decide) B) (blkQ7 ⟨sizeN sz, (e0 :: l0), (some (e2, x :: l)), [], fr, tt, modI fr (sizeN sz), modI fr (sizeN sz), modI tt (sizeN sz), (0 + (l.length + 1)), (0 + (l.length + 1)), false⟩ okF B)) (tm_snssnn (l0.length + 1) (l.length + 1) ns.length e2 n0 (ecOf (e0 :: l0)) (ints (x :: l)) (ints ns) (sizeN sz) sz fr tt (modI fr (sizeN sz)) (modI tt (sizeN sz)) c1 c2 bw _ _) (beq_t _) (by simp only [List.forall_mem_cons]; (repeat' apply And.intro) <;> first | exact h15s hE | exact h18 _ _ (by omega) (by omega) | exact hbX (pp := none) (pr := (some (e2, x :: l))) (es := (e0 :: l0)) rfl rfl (by repeat' first | exact stNil | exact renL_flat _ _ (ints_flat _) | exact renL_flat _ _ (ecOf_flat _) | exact renL_flat _ _ (flat2 _ _) | refine stCons ?_ ?_ | refine renL_c ?_ ?_ | exact renV_sl rfl | exact rfl) | exact hbQ ⟨sizeN sz, (e0 :: l0), (some (e2, x :: l)), [], fr, tt, modI fr (sizeN sz), modI fr (sizeN sz), modI tt (sizeN sz), (0 + (l.length + 1)), (0 + (l.length + 1)), false⟩ (SQ7_tc ⟨sizeN sz, (e0 :: l0), (some (e2, x :: l)), [], fr, tt, modI fr (sizeN sz), modI fr (sizeN sz), modI tt (sizeN sz), (0 + (l.length + 1)), (0 + (l.length + 1)), false⟩ htc 0 21) (SQ7_tc ⟨sizeN sz, (e0 :: l0), (some (e2, x :: l)), [], fr, tt, modI fr (sizeN sz), modI fr (sizeN sz), modI tt (sizeN sz), (0 + (l.length + 1)), (0 + (l.length + 1)), false⟩ htc 4 24) (by repeat' first | exact stNil | exact renL_flat _ _ (ints_flat _) | exact renL_flat _ _ (ecOf_flat _) | exact renL_flat _ _ (flat2 _ _) | refine stCons ?_ ?_ | refine renL_c ?_ ?_ | exact renV_sl rfl | exact rfl) | exact qdn (by simp only [List.length_cons] at hlong; omega) | exact l24n (es := (e0 :: l0)) (ls := []) (Nat.zero_le _) (.inr ⟨hw1, rfl⟩) | exact l24n (es := (e0 :: l0)) (ls := []) (Nat.zero_le _) hw2 | exact l25n (es := (e0 :: l0)) (ls := []) (Nat.zero_le _) hw2 | exact aapR (len := 0) (n := l.length + 1) (os := []) (xs := x :: l) (.inr ⟨rfl, by omega, rfl⟩) rfl rfl (by simp only [List.length_cons] at hlong; omega) rfl | (intro x hx; cases hx))

theorem main7ssn (sz fr tt : Int) (n0 : Nat) (ns : List Int) (e1 : Nat) (ps : List Int) : Res7 sz fr tt (some (n0, ns)) (some (e1, ps)) none := by
  have hsz := sizeN_range sz
  have ha := modI_range (x := fr) (n := sizeN sz) (by omega)
  have hb := modI_range (x := tt) (n := sizeN sz) (by omega)
  have hmk := make_ok sz 2 ns
  have hml := make_len (sizeN sz) 2 ns
  cases hE : makeE (sizeN sz) 2 ns with
  | nil =>
    have okF : Ok7 ⟨sizeN sz, [], none, [], fr, tt, modI fr (sizeN sz), modI fr (sizeN sz), modI tt (sizeN sz), 0, 1, false⟩ := ⟨fun h => (by cases h), fun _ => rfl, by simp [rwL], by simp only [rwL, List.length_nil]; first | omega | (simp only [List.length_cons] at hlong ⊢; omega)⟩
    have htc : ints (([] : List Int) ++ rwL none) = [] := rfl
    obtain ⟨c1, ws1, hw1⟩ := walked_walk (d := ([], modI fr (sizeN sz))) ha (⟨ha, 0, [], rfl⟩ : Walked7 (sizeN sz) (modI fr (sizeN sz)) [] ([], modI fr (sizeN sz)))
    obtain rfl := nil_words hw1
    obtain ⟨c2, bw, hw2⟩ := last_n (N := sizeN sz) (a := fr) (x := tt) (es := [])
    exact fin7 (bs := [(0, gX (sizeN sz) fr tt (modI fr (sizeN sz)) (some (e1, ps)) none [] 18), (4, gQ ⟨sizeN sz, [], none, [], fr, tt, modI fr (sizeN sz), modI fr (sizeN sz), modI tt (sizeN sz), 0, 1, false⟩)]) (D := doorM false [0, 4, 4] [(1, 1, true)] [] [] ([] ++ [] ++ [])) (ids := [0, 2, 3, 5]) (pn := (some (n0, ns))) (pp := (some (e1, ps))) (pr := none) (.inr rfl) (fun B => two (blkX7 (sizeN sz) fr tt (modI fr (sizeN sz)) (some (e1, ps)) none [] (.inr rfl) (by decide) B) (blkQ7 ⟨sizeN sz, [], none, [], fr, tt, modI fr (sizeN sz), modI fr (sizeN sz), modI tt (sizeN sz), 0, 1, false⟩ okF B)) (tm_ssnnnn ps.length ns.length e1 n0 (ints ps) (ints ns) (sizeN sz) sz fr tt (modI fr (sizeN sz)) (modI tt (sizeN sz)) c1 c2 bw _ _) (beq_t _) (by simp only [List.forall_mem_cons]; (repeat' apply And.intro) <;> first | exact h15e hE | exact h18 _ _ (by omega) (by omega) | exact hbX (pp := (some (e1, ps))) (pr := none) (es := []) rfl rfl (by repeat' first | exact stNil | exact renL_flat _ _ (ints_flat _) | exact renL_flat _ _ (ecOf_flat _) | exact renL_flat _ _ (flat2 _ _) | refine stCons ?_ ?_ | refine renL_c ?_ ?_ | exact renV_sl rfl | exact rfl) | exact hbQ ⟨sizeN sz, [], none, [], fr, tt, modI fr (sizeN sz), modI fr (sizeN sz), modI tt (sizeN sz), 0, 1, false⟩ (SQ7_tc ⟨sizeN sz, [], none, [], fr, tt, modI fr (sizeN sz), modI fr (sizeN sz), modI tt (sizeN sz), 0, 1, false⟩ htc 0 21) (SQ7_tc ⟨sizeN sz, [], none, [], fr, tt, modI fr (sizeN sz), modI fr (sizeN sz), modI tt (sizeN sz), 0, 1, false⟩ htc 4 24) (by repeat' first | exact stNil | exact renL_flat _ _ (ints_flat _) | exact renL_flat _ _ (ecOf_flat _) | exact renL_flat _ _ (flat2 _ _) | refine stCons ?_ ?_ | refine renL_c ?_ ?_ | exact renV_sl rfl | exact rfl) | exact l24n (es := []) (ls := []) (Nat.zero_le _) (.inr ⟨hw1, rfl⟩) | exact l24n (es := []) (ls := []) (Nat.zero_le _) hw2 | exact l25n (es := []) (ls := []) (Nat.zero_le _) hw2 | (intro x hx; cases hx))
  | cons e0 l0 =>
    rw [hE] at hmk hml
    have hfit : ∀ e ∈ e0 :: l0, fitsP (sizeN sz) e := (of_decide_eq_true hmk).2.2.2
    obtain ⟨hW, hlen, hne⟩ := walked7_run (ps := ps) hfit 20 ([], modI fr (sizeN sz)) (⟨ha, 0, [], rfl⟩ : Walked7 (sizeN sz) (modI fr (sizeN sz)) (e0 :: l0) ([], modI fr (sizeN sz)))
    have h100 : (e0 :: l0).length ≤ 100 := by omega
    generalize hDF : runD7 (e0 :: l0) ps 20 ([], modI fr (sizeN sz)) = DF at hW hlen hne
    obtain ⟨ls, en⟩ := DF
    simp only [List.length_nil, Nat.zero_add] at hlen
    obtain ⟨c1, ws1, hw1⟩ := walked_walk ha hW
    simp only at hw1
    cases ls with
    | nil =>
      have h0 : en = modI fr (sizeN sz) := by
        rcases hne with h | h
        · exact congrArg Prod.snd h
        · simp at h
      subst h0
      obtain rfl := nil_words hw1
      have okF : Ok7 ⟨sizeN sz, (e0 :: l0), none, [], fr, tt, modI fr (sizeN sz), modI fr (sizeN sz), modI tt (sizeN sz), 0, 1, false⟩ := ⟨fun h => (by cases h), fun _ => rfl, by simp [rwL], by simp only [rwL, List.length_nil]; first | omega | (simp only [List.length_cons] at hlong ⊢; omega)⟩
      have htc : ints (([] : List Int) ++ rwL none) = [] := rfl
      obtain ⟨c2, bw, hw2⟩ := last_n (N := sizeN sz) (a := fr) (x := tt) (es := (e0 :: l0))
      exact fin7 (bs := [(0, gI7 ⟨sizeN sz, e1, e0 :: l0, ps, fr, tt, modI fr (sizeN sz), none⟩ 18), (4, gQ ⟨sizeN sz, (e0 :: l0), none, [], fr, tt, modI fr (sizeN sz), modI fr (sizeN sz), modI tt (sizeN sz), 0, 1, false⟩)]) (D := doorM true [0, 4, 4] [(1, 1, true)] [(3, 3, true)] [] ([] ++ [(3, 3, true)] ++ [])) (ids := [0, 2, 3, 5]) (pn := (some (n0, ns))) (pp := (some (e1, ps))) (pr := none) (.inl rfl) (fun B => two (blk7 ⟨sizeN sz, e1, e0 :: l0, ps, fr, tt, modI fr (sizeN sz), none⟩ h100 (by decide) B) (blkQ7 ⟨sizeN sz, (e0 :: l0), none, [], fr, tt, modI fr (sizeN sz), modI fr (sizeN sz), modI tt (sizeN sz), 0, 1, false⟩ okF B)) (tm_sssnnn (l0.length + 1) ps.length ns.length e1 n0 (ints ps) (ecOf (e0 :: l0)) (ints ns) (sizeN sz) sz fr tt (modI fr (sizeN sz)) (modI tt (sizeN sz)) c1 c2 bw _ _) (beq_t _) (by simp only [List.forall_mem_cons]; (repeat' apply And.intro) <;> first | exact h15s hE | exact h18 _ _ (by omega) (by omega) | exact hbI (n := ⟨sizeN sz, e1, e0 :: l0, ps, fr, tt, modI fr (sizeN sz), none⟩) rfl (by simp only; rw [hDF]; rfl) (by repeat' first | exact stNil | exact renL_flat _ _ (ints_flat _) | exact renL_flat _ _ (ecOf_flat _) | exact renL_flat _ _ (flat2 _ _) | refine stCons ?_ ?_ | refine renL_c ?_ ?_ | exact renV_sl rfl | exact rfl) | exact hbQ ⟨sizeN sz, (e0 :: l0), none, [], fr, tt, modI fr (sizeN sz), modI fr (sizeN sz), modI tt (sizeN sz), 0, 1, false⟩ (SQ7_tc ⟨sizeN sz, (e0 :: l0), none, [], fr, tt, modI fr (sizeN sz), modI fr (sizeN sz), modI tt (sizeN sz), 0, 1, false⟩ htc 0 21) (SQ7_tc ⟨sizeN sz, (e0 :: l0), none, [], fr, tt, modI fr (sizeN sz), modI fr (sizeN sz), modI tt (sizeN sz), 0, 1, false⟩ htc 4 24) (by repeat' first | exact stNil | exact renL_flat _ _ (ints_flat _) | exact renL_flat _ _ (ecOf_flat _) | exact renL_flat _ _ (flat2 _ _) | refine stCons ?_ ?_ | refine renL_c ?_ ?_ | exact renV_sl rfl | exact rfl) | exact l24n (es := (e0 :: l0)) (ls := []) (Nat.zero_le _) (.inr ⟨hw1, rfl⟩) | exact l24n (es := (e0 :: l0)) (ls := []) (Nat.zero_le _) hw2 | exact l25n (es := (e0 :: l0)) (ls := []) (Nat.zero_le _) hw2 | (intro x hx; cases hx))
    | cons y ys =>
      obtain ⟨v1, vs1, rfl⟩ := ne_words hw1
      have okF : Ok7 ⟨sizeN sz, (e0 :: l0), none, y :: ys, fr, tt, modI fr (sizeN sz), en, modI tt (sizeN sz), (0 + (ys.length + 1)), (0 + (ys.length + 1)), false⟩ := ⟨fun h => (by cases h), fun h => (by cases h), by simp [rwL], by refine ⟨hlen, ?_⟩; simp only [rwL, List.length_nil]; first | omega | (simp only [List.length_cons] at hlong ⊢; omega)⟩
      have htc : ints ((y :: ys) ++ rwL none) = ([] ++ ints (y :: ys)) := by simp [ints, rwL]
      have hl1 : (y :: ys).length = 0 + (ys.length + 1) := by simp
      cases hw2 : walkR (sizeN sz) (e0 :: l0) fr tt (y :: ys) with
      | none =>
        exact fin7 (bs := [(0, gI7 ⟨sizeN sz, e1, e0 :: l0, ps, fr, tt, modI fr (sizeN sz), none⟩ 17), (4, gQ ⟨sizeN sz, (e0 :: l0), none, y :: ys, fr, tt, modI fr (sizeN sz), en, modI tt (sizeN sz), (0 + (ys.length + 1)), (0 + (ys.length + 1)), false⟩)]) (D := doorM true [0, 4, 4] [(1, 1, true)] [(3, 3, true)] [] ([] ++ [(3, 3, true)] ++ [(5, 5, true)])) (ids := [0, 2, 3, 5]) (pn := (some (n0, ns))) (pp := (some (e1, ps))) (pr := none) (.inl rfl) (fun B => two (blk7 ⟨sizeN sz, e1, e0 :: l0, ps, fr, tt, modI fr (sizeN sz), none⟩ h100 (by decide) B) (blkQ7 ⟨sizeN sz, (e0 :: l0), none, y :: ys, fr, tt, modI fr (sizeN sz), en, modI tt (sizeN sz), (0 + (ys.length + 1)), (0 + (ys.length + 1)), false⟩ okF B)) (tm_sssnsn (l0.length + 1) ps.length (ys.length + 1) ns.length e1 n0 (vs1.length + 1) (ints ps) (ecOf (e0 :: l0)) (ints (y :: ys)) (ints ns) (ints (v1 :: vs1)) (sizeN sz) sz fr tt (modI fr (sizeN sz)) en (modI tt (sizeN sz)) c1 0 false _ _) (beq_t _) (by simp only [List.forall_mem_cons]; (repeat' apply And.intro) <;> first | exact h15s hE | exact h18 _ _ (by omega) (by omega) | exact hbI (n := ⟨sizeN sz, e1, e0 :: l0, ps, fr, tt, modI fr (sizeN sz), none⟩) rfl (by simp only; rw [hDF]; rfl) (by repeat' first | exact stNil | exact renL_flat _ _ (ints_flat _) | exact renL_flat _ _ (ecOf_flat _) | exact renL_flat _ _ (flat2 _ _) | refine stCons ?_ ?_ | refine renL_c ?_ ?_ | exact renV_sl rfl | exact rfl) | exact hbQ ⟨sizeN sz, (e0 :: l0), none, y :: ys, fr, tt, modI fr (sizeN sz), en, modI tt (sizeN sz), (0 + (ys.length + 1)), (0 + (ys.length + 1)), false⟩ (SQ7_tc ⟨sizeN sz, (e0 :: l0), none, y :: ys, fr, tt, modI fr (sizeN sz), en, modI tt (sizeN sz), (0 + (ys.length + 1)), (0 + (ys.length + 1)), false⟩ htc 0 21) (SQ7_tc ⟨sizeN sz, (e0 :: l0), none, y :: ys, fr, tt, modI fr (sizeN sz), en, modI tt (sizeN sz), (0 + (ys.length + 1)), (0 + (ys.length + 1)), false⟩ htc 4 24) (by repeat' first | exact stNil | exact renL_flat _ _ (ints_flat _) | exact renL_flat _ _ (ecOf_flat _) | exact renL_flat _ _ (flat2 _ _) | refine stCons ?_ ?_ | refine renL_c ?_ ?_ | exact renV_sl rfl | exact rfl) | exact l24s (es := (e0 :: l0)) (ls := y :: ys) hlen hw1 | exact aap (len := 0) (n := ys.length + 1) (os := []) (xs := y :: ys) (.inr ⟨rfl, by omega, rfl⟩) rfl rfl (by simp only [List.length_cons] at hlen; omega) rfl rfl | exact aap8 (os := y :: ys) hl1 (by simp only [List.length_cons] at hlen; omega) (by simp) (.inl ⟨rfl, rfl⟩) | exact l24n (es := (e0 :: l0)) (ls := y :: ys) hlen (.inl ⟨hw2, rfl, rfl⟩) | exact l25n (es := (e0 :: l0)) (ls := y :: ys) hlen (.inl ⟨hw2, rfl, rfl⟩) | (intro x hx; cases hx))
      | some r =>
        obtain ⟨c2, ws2⟩ := r
        obtain ⟨v2, vs2, rfl⟩ := ne_words hw2
        exact fin7 (bs := [(0, gI7 ⟨sizeN sz, e1, e0 :: l0, ps, fr, tt, modI fr (sizeN sz), none⟩ 17), (4, gQ ⟨sizeN sz, (e0 :: l0), none, y :: ys, fr, tt, modI fr (sizeN sz), en, modI tt (sizeN sz), (0 + (ys.length + 1)), (0 + (ys.length + 1)), false⟩)]) (D := doorM true [0, 4, 4] [(1, 1, true)] [(3, 3, true)] [] ([] ++ [(3, 3, true)] ++ [(5, 5, true)])) (ids := [0, 2, 3, 5]) (pn := (some (n0, ns))) (pp := (some (e1, ps))) (pr := none) (.inl rfl) (fun B => two (blk7 ⟨sizeN sz, e1, e0 :: l0, ps, fr, tt, modI fr (sizeN sz), none⟩ h100 (by decide) B) (blkQ7 ⟨sizeN sz, (e0 :: l0), none, y :: ys, fr, tt, modI fr (sizeN sz), en, modI tt (sizeN sz), (0 + (ys.length + 1)), (0 + (ys.length + 1)), false⟩ okF B)) (tm_sssnss (l0.length + 1) ps.length (ys.length + 1) ns.length e1 n0 (vs1.length + 1) (vs2.length + 1) (ints ps) (ecOf (e0 :: l0)) (ints (y :: ys)) (ints ns) (ints (v1 :: vs1)) (ints (v2 :: vs2)) (sizeN sz) sz fr tt (modI fr (sizeN sz)) en (modI tt (sizeN sz)) c1 c2 _ _) (rfl) (by simp only [List.forall_mem_cons]; (repeat' apply And.intro) <;> first | exact h15s hE | exact h18 _ _ (by omega) (by omega) | exact hbI (n := ⟨sizeN sz, e1, e0 :: l0, ps, fr, tt, modI fr (sizeN sz), none⟩) rfl (by simp only; rw [hDF]; rfl) (by repeat' first | exact stNil | exact renL_flat _ _ (ints_flat _) | exact renL_flat _ _ (ecOf_flat _) | exact renL_flat _ _ (flat2 _ _) | refine stCons ?_ ?_ | refine renL_c ?_ ?_ | exact renV_sl rfl | exact rfl) | exact hbQ ⟨sizeN sz, (e0 :: l0), none, y :: ys, fr, tt, modI fr (sizeN sz), en, modI tt (sizeN sz), (0 + (ys.length + 1)), (0 + (ys.length + 1)), false⟩ (SQ7_tc ⟨sizeN sz, (e0 :: l0), none, y :: ys, fr, tt, modI fr (sizeN sz), en, modI tt (sizeN sz), (0 + (ys.length + 1)), (0 + (ys.length + 1)), false⟩ htc 0 21) (SQ7_tc ⟨sizeN sz, (e0 :: l0), none, y :: ys, fr, tt, modI fr (sizeN sz), en, modI tt (sizeN sz), (0 + (ys.length + 1)), (0 + (ys.length + 1)), false⟩ htc 4 24) (by repeat' first | exact stNil | exact renL_flat _ _ (ints_flat _) | exact renL_flat _ _ (ecOf_flat _) | exact renL_flat _ _ (flat2 _ _) | refine stCons ?_ ?_ | refine renL_c ?_ ?_ | exact renV_sl rfl | exact rfl) | exact l24s (es := (e0 :: l0)) (ls := y :: ys) hlen hw1 | exact aap (len := 0) (n := ys.length + 1) (os := []) (xs := y :: ys) (.inr ⟨rfl, by omega, rfl⟩) rfl rfl (by simp only [List.length_cons] at hlen; omega) rfl rfl | exact aap8 (os := y :: ys) hl1 (by simp only [List.length_cons] at hlen; omega) (by simp) (.inl ⟨rfl, rfl⟩) | exact l24s (es := (e0 :: l0)) (ls := y :: ys) hlen hw2 | exact l25s (es := (e0 :: l0)) (ls := y :: ys) hlen hw2 | (intro x hx; cases hx))

theorem main7sss (sz fr tt : Int) (n0 : Nat) (ns : List Int) (e1 : Nat) (ps : List Int) (e2 : Nat) (rs : List Int) : Res7 sz fr tt (some (n0, ns)) (some (e1, ps)) (some (e2, rs)) := by
  by_cases hlong : 60 < rs.length
  · exact fin7 (bs := []) (D := noDoors) (ids := []) (pn := (some (n0, ns))) (pp := (some (e1, ps))) (pr := (some (e2, rs))) (.inl rfl) (fun _ p hp => by cases hp) (tm_ss_long ps.length rs.length ns.length e1 e2 n0 (ints ps) (ints rs) (ints ns) sz fr tt) rfl (by simp only [List.forall_mem_cons]; (repeat' apply And.intro) <;> first | exact qd (by omega) | (intro x hx; cases hx))
  have hsz := sizeN_range sz
  have ha := modI_range (x := fr) (n := sizeN sz) (by omega)
  have hb := modI_range (x := tt) (n := sizeN sz) (by omega)
  have hmk := make_ok sz 2 ns
  have hml := make_len (sizeN sz) 2 ns
  cases hE : makeE (sizeN sz) 2 ns with
  | nil =>
    cases rs with
    | nil =>
      have okF : Ok7 ⟨sizeN sz, [], (some (e2, [])), [], fr, tt, modI fr (sizeN sz), modI fr (sizeN sz), modI tt (sizeN sz), 0, 1, false⟩ := ⟨fun h => (by cases h), fun _ => rfl, by simp [rwL], by simp only [rwL, List.length_nil]; first | omega | (simp only [List.length_cons] at hlong ⊢; omega)⟩
      have htc : ints (([] : List Int) ++ rwL (some (e2, []))) = [] := rfl
      obtain ⟨c1, ws1, hw1⟩ := walked_walk (d := ([], modI fr (sizeN sz))) ha (⟨ha, 0, [], rfl⟩ : Walked7 (sizeN sz) (modI fr (sizeN sz)) [] ([], modI fr (sizeN sz)))
      obtain rfl := nil_words hw1
      obtain ⟨c2, bw, hw2⟩ := last_n (N := sizeN sz) (a := fr) (x := tt) (es := [])
      exact fin7 (bs := [(0, gX (sizeN sz) fr tt (modI fr (sizeN sz)) (some (e1, ps)) (some (e2, [])) [] 18), (4, gQ ⟨sizeN sz, [], (some (e2, [])), [], fr, tt, modI fr (sizeN sz), modI fr (sizeN sz), modI tt (sizeN sz), 0, 1, false⟩)]) (D := doorM false [0, 4, 4] [(1, 1, true)] [] [(2, 2, true)] ([(2, 2, true)] ++ [] ++ [])) (ids := [0, 2, 3, 5]) (pn := (some (n0, ns))) (pp := (some (e1, ps))) (pr := (some (e2, []))) (.inr rfl) (fun B => two (blkX7 (sizeN sz) fr tt (modI fr (sizeN sz)) (some (e1, ps)) (some (e2, [])) [] (.inr rfl) (by decide) B) (blkQ7 ⟨sizeN sz, [], (some (e2, [])), [], fr, tt, modI fr (sizeN sz), modI fr (sizeN sz), modI tt (sizeN sz), 0, 1, false⟩ okF B)) (tm_ssnenn ps.length ns.length e1 e2 n0 (ints ps) (ints ns) (sizeN sz) sz fr tt (modI fr (sizeN sz)) (modI tt (sizeN sz)) c1 c2 bw _ _) (beq_t _) (by simp only [List.forall_mem_cons]; (repeat' apply And.intro) <;> first | exact h15e hE | exact h18 _ _ (by omega) (by omega) | exact hbX (pp := (some (e1, ps))) (pr := (some (e2, []))) (es := []) rfl rfl (by repeat' first | exact stNil | exact renL_flat _ _ (ints_flat _) | exact renL_flat _ _ (ecOf_flat _) | exact renL_flat _ _ (flat2 _ _) | refine stCons ?_ ?_ | refine renL_c ?_ ?_ | exact renV_sl rfl | exact rfl) | exact hbQ ⟨sizeN sz, [], (some (e2, [])), [], fr, tt, modI fr (sizeN sz), modI fr (sizeN sz), modI tt (sizeN sz), 0, 1, false⟩ (SQ7_tc ⟨sizeN sz, [], (some (e2, [])), [], fr, tt, modI fr (sizeN sz), modI fr (sizeN sz), modI tt (sizeN sz), 0, 1, false⟩ htc 0 21) (SQ7_tc ⟨sizeN sz, [], (some (e2, [])), [], fr, tt, modI fr (sizeN sz), modI fr (sizeN sz), modI tt (sizeN sz), 0, 1, false⟩ htc 4 24) (by repeat' first | exact stNil | exact renL_flat _ _ (ints_flat _) | exact renL_flat _ _ (ecOf_flat _) | exact renL_flat _ _ (flat2 _ _) | refine stCons ?_ ?_ | refine renL_c ?_ ?_ | exact renV_sl rfl | exact rfl) | exact l24n (es := []) (ls := []) (Nat.zero_le _) (.inr ⟨hw1, rfl⟩) | exact l24n (es := []) (ls := []) (Nat.zero_le _) hw2 | exact l25n (es := []) (ls := []) (Nat.zero_le _) hw2 | (intro x hx; cases hx))
    | cons x l =>
      have okF : Ok7 ⟨sizeN sz, [], (some (e2, x :: l)), [], fr, tt, modI fr (sizeN sz), modI fr (sizeN sz), modI tt (sizeN sz), (0 + (l.length + 1)), (0 + (l.length + 1)), false⟩ := ⟨fun h => (by cases h), fun _ => rfl, by simp [rwL], by simp only [rwL, List.length_nil]; first | omega | (simp only [List.length_cons] at hlong ⊢; omega)⟩
      have htc : ints (([] : List Int) ++ rwL (some (e2, x :: l))) = ([] ++ ints (x :: l)) := rfl
      obtain ⟨c1, ws1, hw1⟩ := walked_walk (d := ([], modI fr (sizeN sz))) ha (⟨ha, 0, [], rfl⟩ : Walked7 (sizeN sz) (modI fr (sizeN sz)) [] ([], modI fr (sizeN sz)))
      obtain rfl := nil_words hw1
      obtain ⟨c2, bw, hw2⟩ := last_n (N := sizeN sz) (a := fr) (x := tt) (es := [])
      exact fin7 (bs := [(0, gX (sizeN sz) fr tt (modI fr (sizeN sz)) (some (e1, ps)) (some (e2, x :: l)) [] 17), (4, gQ ⟨sizeN sz, [], (some (e2, x :: l)), [], fr, tt, modI fr (sizeN sz), modI fr (sizeN sz), modI tt (sizeN sz), (0 + (l.length + 1)), (0 + (l.length + 1)), false⟩)]) (D := doorM false [0, 4, 4] [(1, 1, true)] [] [(2, 2, true)] ([(2, 2, true)] ++ [] ++ [])) (ids := [0, 2, 3, 5]) (pn := (some (n0, ns))) (pp := (some (e1, ps))) (pr := (some (e2, x :: l))) (.inr rfl) (fun B => two (blkX7 (sizeN sz) fr tt (modI fr (sizeN sz)) (some (e1, ps)) (some (e2, x :: l)) [] (.inr rfl) (by decide) B) (blkQ7 ⟨sizeN sz, [], (some (e2, x :: l)), [], fr, tt, modI fr (sizeN sz), modI fr (sizeN sz), modI tt (sizeN sz), (0 + (l.length + 1)), (0 + (l.length + 1)), false⟩ okF B)) (tm_ssnsnn ps.length (l.length + 1) ns.length e1 e2 n0 (ints ps) (ints (x :: l)) (ints ns) (sizeN sz) sz fr tt (modI fr (sizeN sz)) (modI tt (sizeN sz)) c1 c2 bw _ _) (beq_t _) (by simp only [List.forall_mem_cons]; (repeat' apply And.intro) <;> first | exact h15e hE | exact h18 _ _ (by omega) (by omega) | exact hbX (pp := (some (e1, ps))) (pr := (some (e2, x :: l))) (es := []) rfl rfl (by repeat' first | exact stNil | exact renL_flat _ _ (ints_flat _) | exact renL_flat _ _ (ecOf_flat _) | exact renL_flat _ _ (flat2 _ _) | refine stCons ?_ ?_ | refine renL_c ?_ ?_ | exact renV_sl rfl | exact rfl) | exact hbQ ⟨sizeN sz, [], (some (e2, x :: l)), [], fr, tt, modI fr (sizeN sz), modI fr (sizeN sz), modI tt (sizeN sz), (0 + (l.length + 1)), (0 + (l.length + 1)), false⟩ (SQ7_tc ⟨sizeN sz, [], (some (e2, x :: l)), [], fr, tt, modI fr (sizeN sz), modI fr (sizeN sz), modI tt (sizeN sz), (0 + (l.length + 1)), (0 + (l.length + 1)), false⟩ htc 0 21) (SQ7_tc ⟨sizeN sz, [], (some (e2, x :: l)), [], fr, tt, modI fr (sizeN sz), modI fr (sizeN sz), modI tt (sizeN sz), (0 + (l.length + 1)), (0 + (l.length + 1)), false⟩ htc 4 24) (by repeat' first | exact stNil | exact renL_flat _ _ (ints_flat _) | exact renL_flat _ _ (ecOf_flat _) | exact renL_flat _ _ (flat2 _ _) | refine stCons ?_ ?_ | refine renL_c ?_ ?_ | exact renV_sl rfl | exact rfl) | exact qdn (by simp only [List.length_cons] at hlong; omega) | exact l24n (es := []) (ls := []) (Nat.zero_le _) (.inr ⟨hw1, rfl⟩) | exact l24n (es := []) (ls := []) (Nat.zero_le _) hw2 | exact l25n (es := []) (ls := []) (Nat.zero_le _) hw2 | exact aapR (len := 0) (n := l.length + 1) (os := []) (xs := x :: l) (.inr ⟨rfl, by omega, rfl⟩) rfl rfl (by simp only [List.length_cons] at hlong; omega) rfl | (intro x hx; cases hx))
  | cons e0 l0 =>
    rw [hE] at hmk hml
    have hfit : ∀ e ∈ e0 :: l0, fitsP (sizeN sz) e := (of_decide_eq_true hmk).2.2.2
    obtain ⟨hW, hlen, hne⟩ := walked7_run (ps := ps) hfit 20 ([], modI fr (sizeN sz)) (⟨ha, 0, [], rfl⟩ : Walked7 (sizeN sz) (modI fr (sizeN sz)) (e0 :: l0) ([], modI fr (sizeN sz)))
    have h100 : (e0 :: l0).length ≤ 100 := by omega
    generalize hDF : runD7 (e0 :: l0) ps 20 ([], modI fr (sizeN sz)) = DF at hW hlen hne
    obtain ⟨ls, en⟩ := DF
    simp only [List.length_nil, Nat.zero_add] at hlen
    obtain ⟨c1, ws1, hw1⟩ := walked_walk ha hW
    simp only at hw1
    cases rs with
    | nil =>
      cases ls with
      | nil =>
        have h0 : en = modI fr (sizeN sz) := by
          rcases hne with h | h
          · exact congrArg Prod.snd h
          · simp at h
        subst h0
        obtain rfl := nil_words hw1
        have okF : Ok7 ⟨sizeN sz, (e0 :: l0), (some (e2, [])), [], fr, tt, modI fr (sizeN sz), modI fr (sizeN sz), modI tt (sizeN sz), 0, 1, false⟩ := ⟨fun h => (by cases h), fun _ => rfl, by simp [rwL], by simp only [rwL, List.length_nil]; first | omega | (simp only [List.length_cons] at hlong ⊢; omega)⟩
        have htc : ints (([] : List Int) ++ rwL (some (e2, []))) = [] := rfl
        obtain ⟨c2, bw, hw2⟩ := last_n (N := sizeN sz) (a := fr) (x := tt) (es := (e0 :: l0))
        exact fin7 (bs := [(0, gI7 ⟨sizeN sz, e1, e0 :: l0, ps, fr, tt, modI fr (sizeN sz), (some (e2, []))⟩ 18), (4, gQ ⟨sizeN sz, (e0 :: l0), (some (e2, [])), [], fr, tt, modI fr (sizeN sz), modI fr (sizeN sz), modI tt (sizeN sz), 0, 1, false⟩)]) (D := doorM true [0, 4, 4] [(1, 1, true)] [(3, 3, true)] [(2, 2, true)] ([(2, 2, true)] ++ [(3, 3, true)] ++ [])) (ids := [0, 2, 3, 5]) (pn := (some (n0, ns))) (pp := (some (e1, ps))) (pr := (some (e2, []))) (.inl rfl) (fun B => two (blk7 ⟨sizeN sz, e1, e0 :: l0, ps, fr, tt, modI fr (sizeN sz), (some (e2, []))⟩ h100 (by decide) B) (blkQ7 ⟨sizeN sz, (e0 :: l0), (some (e2, [])), [], fr, tt, modI fr (sizeN sz), modI fr (sizeN sz), modI tt (sizeN sz), 0, 1, false⟩ okF B)) (tm_sssenn (l0.length + 1) ps.length ns.length e1 e2 n0 (ints ps) (ecOf (e0 :: l0)) (ints ns) (sizeN sz) sz fr tt (modI fr (sizeN sz)) (modI tt (sizeN sz)) c1 c2 bw _ _) (beq_t _) (by simp only [List.forall_mem_cons]; (repeat' apply And.intro) <;> first | exact h15s hE | exact h18 _ _ (by omega) (by omega) | exact hbI (n := ⟨sizeN sz, e1, e0 :: l0, ps, fr, tt, modI fr (sizeN sz), (some (e2, []))⟩) rfl (by simp only; rw [hDF]; rfl) (by repeat' first | exact stNil | exact renL_flat _ _ (ints_flat _) | exact renL_flat _ _ (ecOf_flat _) | exact renL_flat _ _ (flat2 _ _) | refine stCons ?_ ?_ | refine renL_c ?_ ?_ | exact renV_sl rfl | exact rfl) | exact hbQ ⟨sizeN sz, (e0 :: l0), (some (e2, [])), [], fr, tt, modI fr (sizeN sz), modI fr (sizeN sz), modI tt (sizeN sz), 0, 1, false⟩ (SQ7_tc ⟨sizeN sz, (e0 :: l0), (some (e2, [])), [], fr, tt, modI fr (sizeN sz), modI fr (sizeN sz), modI tt (sizeN sz), 0, 1, false⟩ htc 0 21) (SQ7_tc ⟨sizeN sz, (e0 :: l0), (some (e2, [])), [], fr, tt, modI fr (sizeN sz), modI fr (sizeN sz), modI tt (sizeN sz), 0, 1, false⟩ htc 4 24) (by repeat' first | exact stNil | exact renL_flat _ _ (ints_flat _) | exact renL_flat _ _ (ecOf_flat _) | exact renL_flat _ _ (flat2 _ _) | refine stCons ?_ ?_ | refine renL_c ?_ ?_ | exact renV_sl rfl | exact rfl) | exact l24n (es := (e0 :: l0)) (ls := []) (Nat.zero_le _) (.inr ⟨hw1, rfl⟩) | exact l24n (es := (e0 :: l0)) (ls := []) (Nat.zero_le _) hw2 | exact l25n (es := (e0 :: l0)) (ls := []) (Nat.zero_le _) hw2 | (intro x hx; cases hx))
      | cons y ys =>
        obtain ⟨v1, vs1, rfl⟩ := ne_words hw1
        have okF : Ok7 ⟨sizeN sz, (e0 :: l0), (some (e2, [])), y :: ys, fr, tt, modI fr (sizeN sz), en, modI tt (sizeN sz), (0 + (ys.length + 1)), (0 + (ys.length + 1)), false⟩ := ⟨fun h => (by cases h), fun h => (by cases h), by simp [rwL], by refine ⟨hlen, ?_⟩; simp only [rwL, List.length_nil]; first | omega | (simp only [List.length_cons] at hlong ⊢; omega)⟩
        have htc : ints ((y :: ys) ++ rwL (some (e2, []))) = ([] ++ ints (y :: ys)) := by simp [ints, rwL]
        have hl1 : (y :: ys).length = 0 + (ys.length + 1) := by simp
        cases hw2 : walkR (sizeN sz) (e0 :: l0) fr tt (y :: ys) with
        | none =>
          exact fin7 (bs := [(0, gI7 ⟨sizeN sz, e1, e0 :: l0, ps, fr, tt, modI fr (sizeN sz), (some (e2, []))⟩ 17), (4, gQ ⟨sizeN sz, (e0 :: l0), (some (e2, [])), y :: ys, fr, tt, modI fr (sizeN sz), en, modI tt (sizeN sz), (0 + (ys.length + 1)), (0 + (ys.length + 1)), false⟩)]) (D := doorM true [0, 4, 4] [(1, 1, true)] [(3, 3, true)] [(2, 2, true)] ([(2, 2, true)] ++ [(3, 3, true)] ++ [(5, 5, true)])) (ids := [0, 2, 3, 5]) (pn := (some (n0, ns))) (pp := (some (e1, ps))) (pr := (some (e2, []))) (.inl rfl) (fun B => two (blk7 ⟨sizeN sz, e1, e0 :: l0, ps, fr, tt, modI fr (sizeN sz), (some (e2, []))⟩ h100 (by decide) B) (blkQ7 ⟨sizeN sz, (e0 :: l0), (some (e2, [])), y :: ys, fr, tt, modI fr (sizeN sz), en, modI tt (sizeN sz), (0 + (ys.length + 1)), (0 + (ys.length + 1)), false⟩ okF B)) (tm_sssesn (l0.length + 1) ps.length (ys.length + 1) ns.length e1 e2 n0 (vs1.length + 1) (ints ps) (ecOf (e0 :: l0)) (ints (y :: ys)) (ints ns) (ints (v1 :: vs1)) (sizeN sz) sz fr tt (modI fr (sizeN sz)) en (modI tt (sizeN sz)) c1 0 false _ _) (beq_t _) (by simp only [List.forall_mem_cons]; (repeat' apply And.intro) <;> first | exact h15s hE | exact h18 _ _ (by omega) (by omega) | exact hbI (n := ⟨sizeN sz, e1, e0 :: l0, ps, fr, tt, modI fr (sizeN sz), (some (e2, []))⟩) rfl (by simp only; rw [hDF]; rfl) (by repeat' first | exact stNil | exact renL_flat _ _ (ints_flat _) | exact renL_flat _ _ (ecOf_flat _) | exact renL_flat _ _ (flat2 _ _) | refine stCons ?_ ?_ | refine renL_c ?_ ?_ | exact renV_sl rfl | exact rfl) | exact hbQ ⟨sizeN sz, (e0 :: l0), (some (e2, [])), y :: ys, fr, tt, modI fr (sizeN sz), en, modI tt (sizeN sz), (0 + (ys.length + 1)), (0 + (ys.length + 1)), false⟩ (SQ7_tc ⟨sizeN sz, (e0 :: l0), (some (e2, [])), y :: ys, fr, tt, modI fr (sizeN sz), en, modI tt (sizeN sz), (0 + (ys.length + 1)), (0 + (ys.length + 1)), false⟩ htc 0 21) (SQ7_tc ⟨sizeN sz, (e0 :: l0), (some (e2, [])), y :: ys, fr, tt, modI fr (sizeN sz), en, modI tt (sizeN sz), (0 + (ys.length + 1)), (0 + (ys.length + 1)), false⟩ htc 4 24) (by repeat' first | exact stNil | exact renL_flat _ _ (ints_flat _) | exact renL_flat _ _ (ecOf_flat _) | exact renL_flat _ _ (flat2 _ _) | refine stCons ?_ ?_ | refine renL_c ?_ ?_ | exact renV_sl rfl | exact rfl) | exact l24s (es := (e0 :: l0)) (ls := y :: ys) hlen hw1 | exact aap (len := 0) (n := ys.length + 1) (os := []) (xs := y :: ys) (.inr ⟨rfl, by omega, rfl⟩) rfl rfl (by simp only [List.length_cons] at hlen; omega) rfl rfl | exact aap8 (os := y :: ys) hl1 (by simp only [List.length_cons] at hlen; omega) (by simp) (.inr ⟨e2, rfl, rfl⟩) | exact l24n (es := (e0 :: l0)) (ls := y :: ys) hlen (.inl ⟨hw2, rfl, rfl⟩) | exact l25n (es := (e0 :: l0)) (ls := y :: ys) hlen (.inl ⟨hw2, rfl, rfl⟩) | (intro x hx; cases hx))
        | some r =>
          obtain ⟨c2, ws2⟩ := r
          obtain ⟨v2, vs2, rfl⟩ := ne_words hw2
          exact fin7 (bs := [(0, gI7 ⟨sizeN sz, e1, e0 :: l0, ps, fr, tt, modI fr (sizeN sz), (some (e2, []))⟩ 17), (4, gQ ⟨sizeN sz, (e0 :: l0), (some (e2, [])), y :: ys, fr, tt, modI fr (sizeN sz), en, modI tt (sizeN sz), (0 + (ys.length + 1)), (0 + (ys.length + 1)), false⟩)]) (D := doorM true [0, 4, 4] [(1, 1, true)] [(3, 3, true)] [(2, 2, true)] ([(2, 2, true)] ++ [(3, 3, true)] ++ [(5, 5, true)])) (ids := [0, 2, 3, 5]) (pn := (some (n0, ns))) (pp := (some (e1, ps))) (pr := (some (e2, []))) (.inl rfl) (fun B => two (blk7 ⟨sizeN sz, e1, e0 :: l0, ps, fr, tt, modI fr (sizeN sz), (some (e2, []))⟩ h100 (by decide) B) (blkQ7 ⟨sizeN sz, (e0 :: l0), (some (e2, [])), y :: ys, fr, tt, modI fr (sizeN sz), en, modI tt (sizeN sz), (0 + (ys.length + 1)), (0 + (ys.length + 1)), false⟩ okF B)) (tm_sssess (l0.length + 1) ps.length (ys.length + 1) ns.length e1 e2 n0 (vs1.length + 1) (vs2.length + 1) (ints ps) (ecOf (e0 :: l0)) (ints (y :: ys)) (ints ns) (ints (v1 :: vs1)) (ints (v2 :: vs2)) (sizeN sz) sz fr tt (modI fr (sizeN sz)) en (modI tt (sizeN sz)) c1 c2 _ _) (rfl) (by simp only [List.forall_mem_cons]; (repeat' apply And.intro) <;> first | exact h15s hE | exact h18 _ _ (by omega) (by omega) | exact hbI (n := ⟨sizeN sz, e1, e0 :: l0, ps, fr, tt, modI fr (sizeN sz), (some (e2, []))⟩) rfl (by simp only; rw [hDF]; rfl) (by repeat' first | exact stNil | exact renL_flat _ _ (ints_flat _) | exact renL_flat _ _ (ecOf_flat _) | exact renL_flat _ _ (flat2 _ _) | refine stCons ?_ ?_ | refine renL_c ?_ ?_ | exact renV_sl rfl | exact rfl) | exact hbQ ⟨sizeN sz, (e0 :: l0), (some (e2, [])), y :: ys, fr, tt, modI fr (sizeN sz), en, modI tt (sizeN sz), (0 + (ys.length + 1)), (0 + (ys.length + 1)), false⟩ (SQ7_tc ⟨sizeN sz, (e0 :: l0), (some (e2, [])), y :: ys, fr, tt, modI fr (sizeN sz), en, modI tt (sizeN sz), (0 + (ys.length + 1)), (0 + (ys.length + 1)), false⟩ htc 0 21) (SQ7_tc ⟨sizeN sz, (e0 :: l0), (some (e2, [])), y :: ys, fr, tt, modI fr (sizeN sz), en, modI tt (sizeN sz), (0 + (ys.length + 1)), (0 + (ys.length + 1)), false⟩ htc 4 24) (by repeat' first | exact stNil | exact renL_flat _ _ (ints_flat _) | exact renL_flat _ _ (ecOf_flat _) | exact renL_flat _ _ (flat2 _ _) | refine stCons ?_ ?_ | refine renL_c ?_ ?_ | exact renV_sl rfl | exact rfl) | exact l24s (es := (e0 :: l0)) (ls := y :: ys) hlen hw1 | exact aap (len := 0) (n := ys.length + 1) (os := []) (xs := y :: ys) (.inr ⟨rfl, by omega, rfl⟩) rfl rfl (by simp only [List.length_cons] at hlen; omega) rfl rfl | exact aap8 (os := y :: ys) hl1 (by simp only [List.length_cons] at hlen; omega) (by simp) (.inr ⟨e2, rfl, rfl⟩) | exact l24s (es := (e0 :: l0)) (ls := y :: ys) hlen hw2 | exact l25s (es := (e0 :: l0)) (ls := y :: ys) hlen hw2 | (intro x hx; cases hx))
    | cons x l =>
      cases ls with
      | nil =>
        have h0 : en = modI fr (sizeN sz) := by
          rcases hne with h | h
          · exact congrArg Prod.snd h
          · simp at h
        subst h0
        obtain rfl := nil_words hw1
        have okF : Ok7 ⟨sizeN sz, (e0 :: l0), (some (e2, x :: l)), [], fr, tt, modI fr (sizeN sz), modI fr (sizeN sz), modI tt (sizeN sz), (0 + (l.length + 1)), (0 + (l.length + 1)), false⟩ := ⟨fun h => (by cases h), fun _ => rfl, by simp [rwL], by simp only [rwL, List.length_nil]; first | omega | (simp only [List.length_cons] at hlong ⊢; omega)⟩
        have htc : ints (([] : List Int) ++ rwL (some (e2, x :: l))) = ([] ++ ints (x :: l)) := rfl
        obtain ⟨c2, bw, hw2⟩ := last_n (N := sizeN sz) (a := fr) (x := tt) (es := (e0 :: l0))
        exact fin7 (bs := [(0, gI7 ⟨sizeN sz, e1, e0 :: l0, ps, fr, tt, modI fr (sizeN sz), (some (e2, x :: l))⟩ 17), (4, gQ ⟨sizeN sz, (e0 :: l0), (some (e2, x :: l)), [], fr, tt, modI fr (sizeN sz), modI fr (sizeN sz), modI tt (sizeN sz), (0 + (l.length + 1)), (0 + (l.length + 1)), false⟩)]) (D := doorM true [0, 4, 4] [(1, 1, true)] [(3, 3, true)] [(2, 2, true)] ([(2, 2, true)] ++ [(3, 3, true)] ++ [])) (ids := [0, 2, 3, 5]) (pn := (some (n0, ns))) (pp := (some (e1, ps))) (pr := (some (e2, x :: l))) (.inl rfl) (fun B => two (blk7 ⟨sizeN sz, e1, e0 :: l0, ps, fr, tt, modI fr (sizeN sz), (some (e2, x :: l))⟩ h100 (by decide) B) (blkQ7 ⟨sizeN sz, (e0 :: l0), (some (e2, x :: l)), [], fr, tt, modI fr (sizeN sz), modI fr (sizeN sz), modI tt (sizeN sz), (0 + (l.length + 1)), (0 + (l.length + 1)), false⟩ okF B)) (tm_ssssnn (l0.length + 1) ps.length (l.length + 1) ns.length e1 e2 n0 (ints ps) (ecOf (e0 :: l0)) (ints (x :: l)) (ints ns) (sizeN sz) sz fr tt (modI fr (sizeN sz)) (modI tt (sizeN sz)) c1 c2 bw _ _) (beq_t _) (by simp only [List.forall_mem_cons]; (repeat' apply And.intro) <;> first | exact h15s hE | exact h18 _ _ (by omega) (by omega) | exact hbI (n := ⟨sizeN sz, e1, e0 :: l0, ps, fr, tt, modI fr (sizeN sz), (some (e2, x :: l))⟩) rfl (by simp only; rw [hDF]; rfl) (by repeat' first | exact stNil | exact renL_flat _ _ (ints_flat _) | exact renL_flat _ _ (ecOf_flat _) | exact renL_flat _ _ (flat2 _ _) | refine stCons ?_ ?_ | refine renL_c ?_ ?_ | exact renV_sl rfl | exact rfl) | exact hbQ ⟨sizeN sz, (e0 :: l0), (some (e2, x :: l)), [], fr, tt, modI fr (sizeN sz), modI fr (sizeN sz), modI tt (sizeN sz), (0 + (l.length + 1)), (0 + (l.length + 1)), false⟩ (SQ7_tc ⟨sizeN sz, (e0 :: l0), (some (e2, x :: l)), [], fr, tt, modI fr (sizeN sz), modI fr (sizeN sz), modI tt (sizeN sz), (0 + (l.length + 1)), (0 + (l.length + 1)), false⟩ htc 0 21) (SQ7_tc ⟨sizeN sz, (e0 :: l0), (some (e2, x :: l)), [], fr, tt, modI fr (sizeN sz), modI fr (sizeN sz), modI tt (sizeN sz), (0 + (l.length + 1)), (0 + (l.length + 1)), false⟩ htc 4 24) (by repeat' first | exact stNil | exact renL_flat _ _ (ints_flat _) | exact renL_flat _ _ (ecOf_flat _) | exact renL_flat _ _ (flat2 _ _) | refine stCons ?_ ?_ | refine renL_c ?_ ?_ | exact renV_sl rfl | exact rfl) | exact qdn (by simp only [List.length_cons] at hlong; omega) | exact l24n (es := (e0 :: l0)) (ls := []) (Nat.zero_le _) (.inr ⟨hw1, rfl⟩) | exact l24n (es := (e0 :: l0)) (ls := []) (Nat.zero_le _) hw2 | exact l25n (es := (e0 :: l0)) (ls := []) (Nat.zero_le _) hw2 | exact aapR (len := 0) (n := l.length + 1) (os := []) (xs := x :: l) (.inr ⟨rfl, by omega, rfl⟩) rfl rfl (by simp only [List.length_cons] at hlong; omega) rfl | (intro x hx; cases hx))
      | cons y ys =>
        obtain ⟨v1, vs1, rfl⟩ := ne_words hw1
        have okF : Ok7 ⟨sizeN sz, (e0 :: l0), (some (e2, x :: l)), y :: ys, fr, tt, modI fr (sizeN sz), en, modI tt (sizeN sz), (0 + (ys.length + 1) + (l.length + 1)), (0 + (ys.length + 1) + (l.length + 1)), true⟩ := ⟨fun _ => ⟨by simp, by simp⟩, fun h => (by cases h), by simp [rwL] <;> omega, by refine ⟨hlen, ?_⟩; simp only [rwL, List.length_nil]; first | omega | (simp only [List.length_cons] at hlong ⊢; omega)⟩
        have htc : ints ((y :: ys) ++ rwL (some (e2, x :: l))) = ([] ++ ints (y :: ys) ++ ints (x :: l)) := by simp [ints, rwL]
        have hl1 : (y :: ys).length = 0 + (ys.length + 1) := by simp
        cases hw2 : walkR (sizeN sz) (e0 :: l0) fr tt (y :: ys) with
        | none =>
          exact fin7 (bs := [(0, gI7 ⟨sizeN sz, e1, e0 :: l0, ps, fr, tt, modI fr (sizeN sz), (some (e2, x :: l))⟩ 16), (4, gQ ⟨sizeN sz, (e0 :: l0), (some (e2, x :: l)), y :: ys, fr, tt, modI fr (sizeN sz), en, modI tt (sizeN sz), (0 + (ys.length + 1) + (l.length + 1)), (0 + (ys.length + 1) + (l.length + 1)), true⟩)]) (D := doorM true [17, 0, 4, 4] [(1, 1, true)] [(3, 3, true)] [(2, 2, true)] ([(2, 2, true)] ++ [(3, 3, true)] ++ [(5, 5, true)])) (ids := [0, 2, 3, 5]) (pn := (some (n0, ns))) (pp := (some (e1, ps))) (pr := (some (e2, x :: l))) (.inl rfl) (fun B => two (blk7 ⟨sizeN sz, e1, e0 :: l0, ps, fr, tt, modI fr (sizeN sz), (some (e2, x :: l))⟩ h100 (by decide) B) (blkQ7 ⟨sizeN sz, (e0 :: l0), (some (e2, x :: l)), y :: ys, fr, tt, modI fr (sizeN sz), en, modI tt (sizeN sz), (0 + (ys.length + 1) + (l.length + 1)), (0 + (ys.length + 1) + (l.length + 1)), true⟩ okF B)) (tm_sssssn (l0.length + 1) ps.length (ys.length + 1) (l.length + 1) ns.length e1 e2 n0 (vs1.length + 1) (ints ps) (ecOf (e0 :: l0)) (ints (y :: ys)) (ints (x :: l)) (ints ns) (ints (v1 :: vs1)) (sizeN sz) sz fr tt (modI fr (sizeN sz)) en (modI tt (sizeN sz)) c1 0 false _ _) (beq_t _) (by simp only [List.forall_mem_cons]; (repeat' apply And.intro) <;> first | exact h15s hE | exact h18 _ _ (by omega) (by omega) | exact hbI (n := ⟨sizeN sz, e1, e0 :: l0, ps, fr, tt, modI fr (sizeN sz), (some (e2, x :: l))⟩) rfl (by simp only; rw [hDF]; rfl) (by repeat' first | exact stNil | exact renL_flat _ _ (ints_flat _) | exact renL_flat _ _ (ecOf_flat _) | exact renL_flat _ _ (flat2 _ _) | refine stCons ?_ ?_ | refine renL_c ?_ ?_ | exact renV_sl rfl | exact rfl) | exact hbQ ⟨sizeN sz, (e0 :: l0), (some (e2, x :: l)), y :: ys, fr, tt, modI fr (sizeN sz), en, modI tt (sizeN sz), (0 + (ys.length + 1) + (l.length + 1)), (0 + (ys.length + 1) + (l.length + 1)), true⟩ (SQ7_tc ⟨sizeN sz, (e0 :: l0), (some (e2, x :: l)), y :: ys, fr, tt, modI fr (sizeN sz), en, modI tt (sizeN sz), (0 + (ys.length + 1) + (l.length + 1)), (0 + (ys.length + 1) + (l.length + 1)), true⟩ htc 0 21) (SQ7_tc ⟨sizeN sz, (e0 :: l0), (some (e2, x :: l)), y :: ys, fr, tt, modI fr (sizeN sz), en, modI tt (sizeN sz), (0 + (ys.length + 1) + (l.length + 1)), (0 + (ys.length + 1) + (l.length + 1)), true⟩ htc 4 24) (by repeat' first | exact stNil | exact renL_flat _ _ (ints_flat _) | exact renL_flat _ _ (ecOf_flat _) | exact renL_flat _ _ (flat2 _ _) | refine stCons ?_ ?_ | refine renL_c ?_ ?_ | exact renV_sl rfl | exact rfl) | exact qdn (by simp only [List.length_cons] at hlong; omega) | exact l24s (es := (e0 :: l0)) (ls := y :: ys) hlen hw1 | exact aap (len := 0) (n := ys.length + 1) (os := []) (xs := y :: ys) (.inr ⟨rfl, by omega, rfl⟩) rfl rfl (by simp only [List.length_cons] at hlen; omega) rfl rfl | exact aapR (n := l.length + 1) (os := y :: ys) (xs := x :: l) (.inl ⟨rfl, by omega, rfl⟩) hl1 rfl (by simp only [List.length_cons] at hlen hlong; omega) (by simp) | exact l24n (es := (e0 :: l0)) (ls := y :: ys) hlen (.inl ⟨hw2, rfl, rfl⟩) | exact l25n (es := (e0 :: l0)) (ls := y :: ys) hlen (.inl ⟨hw2, rfl, rfl⟩) | (intro x hx; cases hx))
        | some r =>
          obtain ⟨c2, ws2⟩ := r
          obtain ⟨v2, vs2, rfl⟩ := ne_words hw2
          exact fin7 (bs := [(0, gI7 ⟨sizeN sz, e1, e0 :: l0, ps, fr, tt, modI fr (sizeN sz), (some (e2, x :: l))⟩ 16), (4, gQ ⟨sizeN sz, (e0 :: l0), (some (e2, x :: l)), y :: ys, fr, tt, modI fr (sizeN sz), en, modI tt (sizeN sz), (0 + (ys.length + 1) + (l.length + 1)), (0 + (ys.length + 1) + (l.length + 1)), true⟩)]) (D := doorM true [17, 0, 4, 4] [(1, 1, true)] [(3, 3, true)] [(2, 2, true)] ([(2, 2, true)] ++ [(3, 3, true)] ++ [(5, 5, true)])) (ids := [0, 2, 3, 5]) (pn := (some (n0, ns))) (pp := (some (e1, ps))) (pr := (some (e2, x :: l))) (.inl rfl) (fun B => two (blk7 ⟨sizeN sz, e1, e0 :: l0, ps, fr, tt, modI fr (sizeN sz), (some (e2, x :: l))⟩ h100 (by decide) B) (blkQ7 ⟨sizeN sz, (e0 :: l0), (some (e2, x :: l)), y :: ys, fr, tt, modI fr (sizeN sz), en, modI tt (sizeN sz), (0 + (ys.length + 1) + (l.length + 1)), (0 + (ys.length + 1) + (l.length + 1)), true⟩ okF B)) (tm_ssssss (l0.length + 1) ps.length (ys.length + 1) (l.length + 1) ns.length e1 e2 n0 (vs1.length + 1) (vs2.length + 1) (ints ps) (ecOf (e0 :: l0)) (ints (y :: ys)) (ints (x :: l)) (ints ns) (ints (v1 :: vs1)) (ints (v2 :: vs2)) (sizeN sz) sz fr tt (modI fr (sizeN sz)) en (modI tt (sizeN sz)) c1 c2 _ _) (rfl) (by simp only [List.forall_mem_cons]; (repeat' apply And.intro) <;> first | exact h15s hE | exact h18 _ _ (by omega) (by omega) | exact hbI (n := ⟨sizeN sz, e1, e0 :: l0, ps, fr, tt, modI fr (sizeN sz), (some (e2, x :: l))⟩) rfl (by simp only; rw [hDF]; rfl) (by repeat' first | exact stNil | exact renL_flat _ _ (ints_flat _) | exact renL_flat _ _ (ecOf_flat _) | exact renL_flat _ _ (flat2 _ _) | refine stCons ?_ ?_ | refine renL_c ?_ ?_ | exact renV_sl rfl | exact rfl) | exact hbQ ⟨sizeN sz, (e0 :: l0), (some (e2, x :: l)), y :: ys, fr, tt, modI fr (sizeN sz), en, modI tt (sizeN sz), (0 + (ys.length + 1) + (l.length + 1)), (0 + (ys.length + 1) + (l.length + 1)), true⟩ (SQ7_tc ⟨sizeN sz, (e0 :: l0), (some (e2, x :: l)), y :: ys, fr, tt, modI fr (sizeN sz), en, modI tt (sizeN sz), (0 + (ys.length + 1) + (l.length + 1)), (0 + (ys.length + 1) + (l.length + 1)), true⟩ htc 0 21) (SQ7_tc ⟨sizeN sz, (e0 :: l0), (some (e2, x :: l)), y :: ys, fr, tt, modI fr (sizeN sz), en, modI tt (sizeN sz), (0 + (ys.length + 1) + (l.length + 1)), (0 + (ys.length + 1) + (l.length + 1)), true⟩ htc 4 24) (by repeat' first | exact stNil | exact renL_flat _ _ (ints_flat _) | exact renL_flat _ _ (ecOf_flat _) | exact renL_flat _ _ (flat2 _ _) | refine stCons ?_ ?_ | refine renL_c ?_ ?_ | exact renV_sl rfl | exact rfl) | exact qdn (by simp only [List.length_cons] at hlong; omega) | exact l24s (es := (e0 :: l0)) (ls := y :: ys) hlen hw1 | exact aap (len := 0) (n := ys.length + 1) (os := []) (xs := y :: ys) (.inr ⟨rfl, by omega, rfl⟩) rfl rfl (by simp only [List.length_cons] at hlen; omega) rfl rfl | exact aapR (n := l.length + 1) (os := y :: ys) (xs := x :: l) (.inl ⟨rfl, by omega, rfl⟩) hl1 rfl (by simp only [List.length_cons] at hlen hlong; omega) (by simp) | exact l24s (es := (e0 :: l0)) (ls := y :: ys) hlen hw2 | exact l25s (es := (e0 :: l0)) (ls := y :: ys) hlen hw2 | (intro x hx; cases hx))
end Go.Proofs.YtlmifmodnkhidaaDoor
