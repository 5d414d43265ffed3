/-
  QueueSorts: whatever the two rows, the call returns true, and its arguments read as they did.
-/
import Derived.Test.YthocfeccinpbmaaGQR1
open Go Go.Am Go.Proofs
namespace Go.Proofs.Ythocfeccinpbmaa
set_option maxRecDepth 100000

theorem Same.key_no {m : Nat} {s : QS} {t : RS} (h : Same m s t) {i : Nat} (hi : i < m) (hz : s.Pl[i]? = some 0) : t.Is.getD i false = false := by
  cases hb : t.Is.getD i false with
  | false => rfl
  | true =>
    exfalso
    have hin := (h.mem i _ hi).2 ⟨hb, rfl⟩
    obtain ⟨j, hj, he⟩ := mem_at.1 hin
    have := h.ok.wf.at' j ((i : Int), t.K.getD i 0) (by rw [eAt_get hj, he])
    simp only [Int.toNat_natCast] at this
    rw [hz] at this
    have := Option.some.inj this
    omega
theorem Same.key_yes {m : Nat} {s : QS} {t : RS} (h : Same m s t) {i : Nat} (hi : i < m) {z : Int} (hz : s.Pl[i]? = some z) (hn : z ≠ 0) : ∃ (j : Nat) (e : En), s.es[j]? = some e ∧ z = (j : Int) + 1 ∧ t.Is.getD i false = true ∧ t.K.getD i 0 = e.2 := by
  obtain ⟨j, e, k1, k2, k3⟩ := (h.ok.wf.no i z hz).resolve_left hn
  have hin : ((i : Int), e.2) ∈ s.es := by
    have := List.mem_of_getElem? k1
    rw [show e = ((i : Int), e.2) from by rw [← k2]] at this
    exact this
  obtain ⟨a, b⟩ := (h.mem i e.2 hi).1 hin
  exact ⟨j, e, k1, k3, a, b⟩
theorem putS_nil {Pl : List Int} (h : QS.Ok ⟨none, Pl⟩) {id key : Int} (h0 : 0 ≤ id) (h1 : id < (Pl.length : Int)) : putS ⟨none, Pl⟩ id key = (true, ⟨some [(id, key)], Pl.set id.toNat 1⟩) := by
  have hg : Pl[id.toNat]? = some (Pl.getD id.toNat 0) := getD_some (by omega)
  have hz : Pl.getD id.toNat 0 = 0 := by
    rcases h.wf.no _ _ hg with h2 | ⟨k, e, k1, _⟩
    · exact h2
    · simp [QS.es] at k1
  have : putR [] Pl id key = (true, ([(id, key)], Pl.set id.toNat 1)) := by
    unfold putR
    rw [if_pos ⟨h0, h1⟩, if_pos hz, upR_eq]
    rfl
  unfold putS
  simp [QS.es, this]
theorem putS_out {s : QS} (h : s.Ok) {id key : Int} (hn : ¬ (0 ≤ id ∧ id < (s.Pl.length : Int))) : putS s id key = (false, s) := putS_no h fun hp => hn ⟨hp.1, hp.2.1⟩
theorem popR_shape {E : List En} {Pl : List Int} : ∃ (a b : Int) (c : Bool), (popR E Pl).1 = .tuple ⟨[i64 a, i64 b, .bool c]⟩ := by
  unfold popR
  split
  · exact ⟨_, _, _, rfl⟩
  · exact ⟨_, _, _, rfl⟩

theorem rputQ {SP : Specs} {D : Nat → Door} {ids : List Nat} {looks : List (Option ABlk)} {x k is next m : Nat} {t : RS} {id key : Int} {b : Bool} {K2 : List Int} {Is2 : List Bool} {N2 : Int} (hS : SP.calls 21 = some (gOf TD TR)) (hD : ∀ M : Mem, ids.map M.get = looks → RX.At ⟨x, k, is, t⟩ M)
    (hR : rputR t id key = (b, ⟨K2, Is2, N2⟩)) (hm : K2.length = m) (h1 : x < next) (h2 : k < next) (h3 : is < next) :
    (QV.mc 21 [pt x 0, i64 id, i64 key] looks next (.bool b) [(x, some (robj k is m N2)), (k, some (own (ints K2) 3 1)), (is, some (own (bools Is2) 4 1))] []).holds Try.prog SP D ids := by
  subst hm
  refine qmc TD.inj hS (x := ⟨⟨x, k, is, t⟩, id, key⟩) (fun M h _ => ⟨hD M h, rfl⟩) (fun M _ => by simp only [TR, rturned, hR]) (fun a ha => ?_) (by simp)
  simp only [List.map_cons, List.map_nil, List.mem_cons, List.not_mem_nil, or_false] at ha
  rcases ha with rfl | rfl | rfl
  · exact h1
  · exact h2
  · exact h3
theorem rpopQ {SP : Specs} {D : Nat → Door} {ids : List Nat} {looks : List (Option ABlk)} {x k is next m : Nat} {t : RS} {v : Value} {K2 : List Int} {Is2 : List Bool} {N2 : Int} (hS : SP.calls 17 = some (gOf ZD ZR)) (hD : ∀ M : Mem, ids.map M.get = looks → RX.At ⟨x, k, is, t⟩ M) (hb : t.K.length ≤ 2 ^ 40)
    (hR : rpopR t = (v, ⟨K2, Is2, N2⟩)) (hm : K2.length = m) (h1 : x < next) (h2 : k < next) (h3 : is < next) :
    (QV.mc 17 [pt x 0] looks next v [(x, some (robj k is m N2)), (k, some (own (ints K2) 3 1)), (is, some (own (bools Is2) 4 1))] []).holds Try.prog SP D ids := by
  subst hm
  refine qmc ZD.inj hS (x := ⟨x, k, is, t⟩) (fun M h _ => ⟨hD M h, rfl, hb⟩) (fun M _ => by simp only [ZR, rturned, hR]) (fun a ha => ?_) (by simp)
  simp only [List.map_cons, List.map_nil, List.mem_cons, List.not_mem_nil, or_false] at ha
  rcases ha with rfl | rfl | rfl
  · exact h1
  · exact h2
  · exact h3
theorem qm7 {p r e pl n m : Nat} {a b c : Option ABlk} {x k is : Nat} {E : List En} {Pl : List Int} (hn : E.length = n) (hm : Pl.length = m) (hd : Go.Am.distinct [p, r, e, pl] = true) {M : Mem}
    (h : [p, r, e, pl, x, k, is].map M.get = [some (lineB r e pl n m), some (own fns 41 1), some (own (ents E) 43 2), some (own (ints Pl) 3 1), a, b, c]) : QM M p r e pl E Pl := by
  subst hn; subst hm
  simp only [List.map_cons, List.map_nil, List.cons.injEq, and_true] at h
  exact ⟨h.1, h.2.1, h.2.2.1, h.2.2.2.1, hd⟩
theorem rm7 {p r e pl x k is m : Nat} {a b c d : Option ABlk} {t : RS} (hk : t.K.length = m) (hi : t.Is.length = m) (hd : Go.Am.distinct [x, k, is] = true) {M : Mem}
    (h : [p, r, e, pl, x, k, is].map M.get = [a, b, c, d, some (robj k is m t.N), some (own (ints t.K) 3 1), some (own (bools t.Is) 4 1)]) : RX.At ⟨x, k, is, t⟩ M := by
  subst hk
  simp only [List.map_cons, List.map_nil, List.cons.injEq, and_true] at h
  exact ⟨h.2.2.2.2.1, h.2.2.2.2.2.1, h.2.2.2.2.2.2, hd, hi⟩
theorem cell3 : OneCell Try.prog 3 (i64 0) := ⟨⟨_, rfl, by kernel_rfl, by kernel_rfl, by kernel_rfl⟩, rfl, rfl, rfl⟩
theorem cell4 : OneCell Try.prog 4 (.bool false) := ⟨⟨_, rfl, by kernel_rfl, by kernel_rfl, by kernel_rfl⟩, rfl, rfl, rfl⟩
theorem mkI {SP : Specs} {D : Nat → Door} {ids : List Nat} {k next : Nat} (hk : k < 2 ^ 37) : (QV.mk 22 (i64 (k : Int)) (i64 (k : Int)) next (.val (.slice (some ⟨next, 0, none⟩) k (k + 1))) (own (ints (List.replicate k 0)) 3 1)).holds Try.prog SP D ids := by
  rw [ints_rep]
  exact mk_row Try.underlying22 cell3 hk
theorem mkB {SP : Specs} {D : Nat → Door} {ids : List Nat} {k next : Nat} (hk : k < 2 ^ 37) : (QV.mk 39 (i64 (k : Int)) (i64 (k : Int)) next (.val (.slice (some ⟨next, 0, none⟩) k (k + 1))) (own (bools (List.replicate k false)) 4 1)).holds Try.prog SP D ids := by
  have : bools (List.replicate k false) = List.replicate k (.bool false) := by simp [bools]
  rw [this]
  exact mk_row Try.underlying39 cell4 hk
end Go.Proofs.Ythocfeccinpbmaa
namespace Go.Proofs.Ythocfeccinpbmaa
theorem ldR {SP : Specs} {D : Nat → Door} {ids : List Nat} {l : List Int} {k el : Nat} {z : Int} (h : l[k]? = some z) : (QV.ld 3 (0 + k * 1) (some (ro (ints l) el 1)) (.val (i64 z))).holds Try.prog SP D ids :=
  qld uInt rfl (by rw [Nat.zero_add, Nat.mul_one]; exact ints_get h)
end Go.Proofs.Ythocfeccinpbmaa
