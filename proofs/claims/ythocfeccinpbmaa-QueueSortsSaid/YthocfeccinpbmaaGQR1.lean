/-
  QueueSorts: whatever the two rows, the call returns true, and its arguments read as they did.
-/
import Derived.Test.YthocfeccinpbmaaGQT1
open Go Go.Am Go.Proofs
namespace Go.Proofs.Ythocfeccinpbmaa
set_option maxRecDepth 100000

/- The document's own queue. -/
def robj (k is m : Nat) (N : Int) : ABlk := own [.slice (some ⟨k, 0, none⟩) m (m + 1), .slice (some ⟨is, 0, none⟩) m (m + 1), i64 N] 54 3
def rsmall (m : Nat) (K : List Int) (Is : List Bool) (N : Int) : List (Nat × ABlk) := [(0, robj 1 2 m N), (1, own (ints K) 3 1), (2, own (bools Is) 4 1)]
noncomputable def B21 : Code := Try.f21.body.get!
theorem body21 : Try.f21.body = some B21 := by kernel_rfl
noncomputable def B17 : Code := Try.f17.body.get!
theorem body17 : Try.f17.body = some B17 := by kernel_rfl
noncomputable def loop17 : Code := unloop ((inner 0 100 B17).get!)
noncomputable def SP17 (bs : List (Nat × (Code → St → Option (AExit × St)))) : Specs := specsB [] bs
noncomputable def run21 (m : Nat) (K : List Int) (Is : List Bool) (N id key : Int) (F : List Fact) :=
  (xexec Try.prog [] noSpecs 200 B21 ⟨initT [pt 0 0, i64 id, i64 key] 0 .nil, Try.f21.ntmps, startMem (rsmall m K Is N) 3⟩ F 0).map (fun r => (r.1.1, [0, 1, 2].map r.1.2.M.get, aresults Try.prog Try.f21 r.1.2, r.2.2.2.map (view noDoors [])))
noncomputable def run17 (SP : Specs) (D : Nat → Door) (m : Nat) (K : List Int) (Is : List Bool) (N : Int) (F : List Fact) :=
  (xexec Try.prog [] SP 200 B17 ⟨initT [pt 0 0] 0 .nil, Try.f17.ntmps, startMem (rsmall m K Is N) 3⟩ F 0).map (fun r => (r.1.1, [0, 1, 2].map r.1.2.M.get, aresults Try.prog Try.f17 r.1.2, r.2.2.2.map (view D [])))
def S17 (m : Nat) (K : List Int) (Is : List Bool) (N b i : Int) (nx : Nat) : St := ⟨tabT [(0, pt 0 0), (5, i64 b), (6, i64 i)], 68, ⟨blkTree (rsmall m K Is N), nx, [], [0, 1, 2] ++ []⟩⟩
def E17 (m : Nat) (K : List Int) (Is : List Bool) (N b : Int) (nx : Nat) : St := ⟨tabT [(0, pt 0 0), (5, i64 b)], 68, ⟨blkTree (rsmall m K Is N), nx, [], [0, 1, 2] ++ []⟩⟩
def D17 : Door := ⟨3, 3, [(0, 0, true), (1, 1, true), (2, 2, true)], [0, 5, 6], [0, 1, 2], []⟩

noncomputable def rnd17 (s : St) (F : List Fact) (nx : Nat) (mv : Moves) :=
  (xexec Try.prog [] (SP17 []) 200 loop17 s F 0).map (fun r => (r.1.1, rebase 3 nx mv [0, 5, 6] [0, 1, 2] [] r.1.2, stills r.1.2.M mv, Nat.ble r.1.2.M.next 20, r.2.2.2.map (view (noDoors) [])))
noncomputable def end17 (s : St) (F : List Fact) (nx : Nat) (mv : Moves) :=
  (xexec Try.prog [] (SP17 []) 200 loop17 s F 0).map (fun r => (r.1.1, rebase 3 nx mv [0, 5] [0, 1, 2] [] r.1.2, stills r.1.2.M mv, Nat.ble r.1.2.M.next 20, r.2.2.2.map (view (noDoors) [])))
theorem r210 (m : Nat) (K : List Int) (Is : List Bool) (N id key : Int) : run21 m K Is N id key [tru 8, tru 10, tru 12, tru 14, tru 16, tru 18, tru 20, tru 23] = some (.ret, [some ⟨[(.slice (some ⟨1, 0, none⟩) m (m + 1)), (.slice (some ⟨2, 0, none⟩) m (m + 1)), (i64 N)], 54, 3, 0, true⟩, some ⟨ints (K), 3, 1, 0, true⟩, some ⟨bools (Is), 4, 1, 0, true⟩], some (.bool false), [.b (decide (id < (0 : Int))) (.val (.bool true)), .b (decide (id < (0 : Int))) (.val (.bool true)), .b (decide (id < (0 : Int))) (.val (.bool true)), .b (decide (id < (0 : Int))) (.val (.bool true)), .b (decide (id < (0 : Int))) (.val (.bool true)), .b (decide (id < (0 : Int))) (.val (.bool true)), .b (decide (id < (0 : Int))) (.val (.bool true)), .b (decide (id < (0 : Int))) (.val (.bool true))]) := by kernel_rfl
theorem r211 (m : Nat) (K : List Int) (Is : List Bool) (N id key : Int) : run21 m K Is N id key [fls 8, fls 10, fls 12, fls 14, fls 16, fls 18, fls 20, fls 23, tru 26, tru 28, tru 30, tru 32, tru 34, tru 36, tru 38, tru 40, tru 60, tru 63] = some (.ret, [some ⟨[(.slice (some ⟨1, 0, none⟩) m (m + 1)), (.slice (some ⟨2, 0, none⟩) m (m + 1)), (i64 N)], 54, 3, 0, true⟩, some ⟨ints (K), 3, 1, 0, true⟩, some ⟨bools (Is), 4, 1, 0, true⟩], some (.bool false), [.b (decide (id < (0 : Int))) (.val (.bool false)), .b (decide (id < (0 : Int))) (.val (.bool false)), .b (decide (id < (0 : Int))) (.val (.bool false)), .b (decide (id < (0 : Int))) (.val (.bool false)), .b (decide (id < (0 : Int))) (.val (.bool false)), .b (decide (id < (0 : Int))) (.val (.bool false)), .b (decide (id < (0 : Int))) (.val (.bool false)), .b (decide (id < (0 : Int))) (.val (.bool false)), .b (decide (id ≥ (((m : Nat) : Int)))) (.val (.bool true)), .b (decide (id ≥ (((m : Nat) : Int)))) (.val (.bool true)), .b (decide (id ≥ (((m : Nat) : Int)))) (.val (.bool true)), .b (decide (id ≥ (((m : Nat) : Int)))) (.val (.bool true)), .b (decide (id ≥ (((m : Nat) : Int)))) (.val (.bool true)), .b (decide (id ≥ (((m : Nat) : Int)))) (.val (.bool true)), .b (decide (id ≥ (((m : Nat) : Int)))) (.val (.bool true)), .b (decide (id ≥ (((m : Nat) : Int)))) (.val (.bool true)), .b (decide (id ≥ (((m : Nat) : Int)))) (.val (.bool true)), .b (decide (id ≥ (((m : Nat) : Int)))) (.val (.bool true))]) := by kernel_rfl
theorem r212 (m : Nat) (K : List Int) (Is : List Bool) (N id key : Int) (z : Int) (bz : Bool) : run21 m K Is N id key [fls 8, fls 10, fls 12, fls 14, fls 16, fls 18, fls 20, fls 23, fls 26, fls 28, fls 30, fls 32, fls 34, fls 36, tru 37, fls 38, got 39 (.bool bz), fls 40, tru 42, tru 44, tru 46, tru 48, tru 50, tru 52, tru 53, tru 54, got 55 (i64 z), tru 56, tru 58, fls 60, tru 61, fls 63, tru 64] = some (.ret, [some ⟨[(.slice (some ⟨1, 0, none⟩) m (m + 1)), (.slice (some ⟨2, 0, none⟩) m (m + 1)), (i64 N)], 54, 3, 0, true⟩, some ⟨ints (K), 3, 1, 0, true⟩, some ⟨bools (Is), 4, 1, 0, true⟩], some (.bool false), [.b (decide (id < (0 : Int))) (.val (.bool false)), .b (decide (id < (0 : Int))) (.val (.bool false)), .b (decide (id < (0 : Int))) (.val (.bool false)), .b (decide (id < (0 : Int))) (.val (.bool false)), .b (decide (id < (0 : Int))) (.val (.bool false)), .b (decide (id < (0 : Int))) (.val (.bool false)), .b (decide (id < (0 : Int))) (.val (.bool false)), .b (decide (id < (0 : Int))) (.val (.bool false)), .b (decide (id ≥ (((m : Nat) : Int)))) (.val (.bool false)), .b (decide (id ≥ (((m : Nat) : Int)))) (.val (.bool false)), .b (decide (id ≥ (((m : Nat) : Int)))) (.val (.bool false)), .b (decide (id ≥ (((m : Nat) : Int)))) (.val (.bool false)), .b (decide (id ≥ (((m : Nat) : Int)))) (.val (.bool false)), .b (decide (id ≥ (((m : Nat) : Int)))) (.val (.bool false)), .ib id m, .b (decide (id ≥ (((m : Nat) : Int)))) (.val (.bool false)), .ld 4 (0 + (id : Int).toNat * 1) (some ⟨bools (Is), 4, 1, 0, true⟩) (.val (.bool bz)), .b (decide (id ≥ (((m : Nat) : Int)))) (.val (.bool false)), .b bz (.val (.bool true)), .b bz (.val (.bool true)), .b bz (.val (.bool true)), .b bz (.val (.bool true)), .b bz (.val (.bool true)), .b bz (.val (.bool true)), .ib id m, .b bz (.val (.bool true)), .ld 3 (0 + (id : Int).toNat * 1) (some ⟨ints (K), 3, 1, 0, true⟩) (.val (i64 z)), .b bz (.val (.bool true)), .b bz (.val (.bool true)), .b (decide (id ≥ (((m : Nat) : Int)))) (.val (.bool false)), .b bz (.val (.bool true)), .b (decide (id ≥ (((m : Nat) : Int)))) (.val (.bool false)), .b (decide (z ≤ key)) (.val (.bool true))]) := by kernel_rfl
theorem r213 (m : Nat) (K : List Int) (Is : List Bool) (N id key : Int) (z : Int) (bz : Bool) : run21 m K Is N id key [fls 8, fls 10, fls 12, fls 14, fls 16, fls 18, fls 20, fls 23, fls 26, fls 28, fls 30, fls 32, fls 34, fls 36, tru 37, fls 38, got 39 (.bool bz), fls 40, tru 42, tru 44, tru 46, tru 48, tru 50, tru 52, tru 53, tru 54, got 55 (i64 z), tru 56, tru 58, fls 60, tru 61, fls 63, fls 64, tru 76, got 78 (.bool bz), fls 81, tru 105, onto 107 (ints ((K).set (id : Int).toNat key)), tru 109, onto 111 (bools ((Is).set (id : Int).toNat true))] = some (.ret, [some ⟨[(.slice (some ⟨1, 0, none⟩) m (m + 1)), (.slice (some ⟨2, 0, none⟩) m (m + 1)), (i64 N)], 54, 3, 0, true⟩, some ⟨ints ((K).set (id : Int).toNat key), 3, 1, 0, true⟩, some ⟨bools ((Is).set (id : Int).toNat true), 4, 1, 0, true⟩], some (.bool true), [.b (decide (id < (0 : Int))) (.val (.bool false)), .b (decide (id < (0 : Int))) (.val (.bool false)), .b (decide (id < (0 : Int))) (.val (.bool false)), .b (decide (id < (0 : Int))) (.val (.bool false)), .b (decide (id < (0 : Int))) (.val (.bool false)), .b (decide (id < (0 : Int))) (.val (.bool false)), .b (decide (id < (0 : Int))) (.val (.bool false)), .b (decide (id < (0 : Int))) (.val (.bool false)), .b (decide (id ≥ (((m : Nat) : Int)))) (.val (.bool false)), .b (decide (id ≥ (((m : Nat) : Int)))) (.val (.bool false)), .b (decide (id ≥ (((m : Nat) : Int)))) (.val (.bool false)), .b (decide (id ≥ (((m : Nat) : Int)))) (.val (.bool false)), .b (decide (id ≥ (((m : Nat) : Int)))) (.val (.bool false)), .b (decide (id ≥ (((m : Nat) : Int)))) (.val (.bool false)), .ib id m, .b (decide (id ≥ (((m : Nat) : Int)))) (.val (.bool false)), .ld 4 (0 + (id : Int).toNat * 1) (some ⟨bools (Is), 4, 1, 0, true⟩) (.val (.bool bz)), .b (decide (id ≥ (((m : Nat) : Int)))) (.val (.bool false)), .b bz (.val (.bool true)), .b bz (.val (.bool true)), .b bz (.val (.bool true)), .b bz (.val (.bool true)), .b bz (.val (.bool true)), .b bz (.val (.bool true)), .ib id m, .b bz (.val (.bool true)), .ld 3 (0 + (id : Int).toNat * 1) (some ⟨ints (K), 3, 1, 0, true⟩) (.val (i64 z)), .b bz (.val (.bool true)), .b bz (.val (.bool true)), .b (decide (id ≥ (((m : Nat) : Int)))) (.val (.bool false)), .b bz (.val (.bool true)), .b (decide (id ≥ (((m : Nat) : Int)))) (.val (.bool false)), .b (decide (z ≤ key)) (.val (.bool false)), .ib id m, .ld 4 (0 + (id : Int).toNat * 1) (some ⟨bools (Is), 4, 1, 0, true⟩) (.val (.bool bz)), .b (!(bz)) (.val (.bool false)), .ib id m, .st 3 (0 + (id : Int).toNat * 1) (i64 key) (ints ((K).set (id : Int).toNat key)) ⟨ints (K), 3, 1, 0, true⟩, .ib id m, .st 4 (0 + (id : Int).toNat * 1) (.bool true) (bools ((Is).set (id : Int).toNat true)) ⟨bools (Is), 4, 1, 0, true⟩]) := by kernel_rfl
theorem r214 (m : Nat) (K : List Int) (Is : List Bool) (N id key : Int) (bz : Bool) : run21 m K Is N id key [fls 8, fls 10, fls 12, fls 14, fls 16, fls 18, fls 20, fls 23, fls 26, fls 28, fls 30, fls 32, fls 34, fls 36, tru 37, fls 38, got 39 (.bool bz), fls 40, fls 42, fls 44, fls 46, fls 48, fls 50, fls 52, fls 54, fls 56, fls 58, fls 60, fls 61, fls 63, tru 76, got 78 (.bool bz), tru 81, tru 121, onto 123 (ints ((K).set (id : Int).toNat key)), tru 125, onto 127 (bools ((Is).set (id : Int).toNat true))] = some (.ret, [some ⟨[(.slice (some ⟨1, 0, none⟩) m (m + 1)), (.slice (some ⟨2, 0, none⟩) m (m + 1)), (i64 (IntKind.wrap .i64 (N + (1 : Int))))], 54, 3, 0, true⟩, some ⟨ints ((K).set (id : Int).toNat key), 3, 1, 0, true⟩, some ⟨bools ((Is).set (id : Int).toNat true), 4, 1, 0, true⟩], some (.bool true), [.b (decide (id < (0 : Int))) (.val (.bool false)), .b (decide (id < (0 : Int))) (.val (.bool false)), .b (decide (id < (0 : Int))) (.val (.bool false)), .b (decide (id < (0 : Int))) (.val (.bool false)), .b (decide (id < (0 : Int))) (.val (.bool false)), .b (decide (id < (0 : Int))) (.val (.bool false)), .b (decide (id < (0 : Int))) (.val (.bool false)), .b (decide (id < (0 : Int))) (.val (.bool false)), .b (decide (id ≥ (((m : Nat) : Int)))) (.val (.bool false)), .b (decide (id ≥ (((m : Nat) : Int)))) (.val (.bool false)), .b (decide (id ≥ (((m : Nat) : Int)))) (.val (.bool false)), .b (decide (id ≥ (((m : Nat) : Int)))) (.val (.bool false)), .b (decide (id ≥ (((m : Nat) : Int)))) (.val (.bool false)), .b (decide (id ≥ (((m : Nat) : Int)))) (.val (.bool false)), .ib id m, .b (decide (id ≥ (((m : Nat) : Int)))) (.val (.bool false)), .ld 4 (0 + (id : Int).toNat * 1) (some ⟨bools (Is), 4, 1, 0, true⟩) (.val (.bool bz)), .b (decide (id ≥ (((m : Nat) : Int)))) (.val (.bool false)), .b bz (.val (.bool false)), .b bz (.val (.bool false)), .b bz (.val (.bool false)), .b bz (.val (.bool false)), .b bz (.val (.bool false)), .b bz (.val (.bool false)), .b bz (.val (.bool false)), .b bz (.val (.bool false)), .b bz (.val (.bool false)), .b (decide (id ≥ (((m : Nat) : Int)))) (.val (.bool false)), .b bz (.val (.bool false)), .b (decide (id ≥ (((m : Nat) : Int)))) (.val (.bool false)), .ib id m, .ld 4 (0 + (id : Int).toNat * 1) (some ⟨bools (Is), 4, 1, 0, true⟩) (.val (.bool bz)), .b (!(bz)) (.val (.bool true)), .ib id m, .st 3 (0 + (id : Int).toNat * 1) (i64 key) (ints ((K).set (id : Int).toNat key)) ⟨ints (K), 3, 1, 0, true⟩, .ib id m, .st 4 (0 + (id : Int).toNat * 1) (.bool true) (bools ((Is).set (id : Int).toNat true)) ⟨bools (Is), 4, 1, 0, true⟩]) := by kernel_rfl
theorem t170 (m : Nat) (K : List Int) (Is : List Bool) (N b : Int) (i : Nat) (bz : Bool) : rnd17 (S17 m K Is N b (i : Int) 3) [tru 14, tru 26, got 28 (.bool bz), tru 31, tru 33, tru 35, tru 37, tru 39, tru 41, tru 43, tru 45, tru 47, tru 49, tru 51, tru 53, tru 55, tru 57, tru 59, tru 61, tru 63, tru 65, tru 67, tru 68, tru 70] 3 [(0, 0, true), (1, 1, true), (2, 2, true)] = some (.normal, some (S17 m K Is N (((i : Nat) : Int)) (IntKind.wrap .i64 ((((i : Nat) : Int)) + (1 : Int))) 3), [(robj 1 2 m N).cs, ints K, bools Is], true, [.b (decide ((((i : Nat) : Int)) < (((m : Nat) : Int)))) (.val (.bool true)), .ib (((i : Nat) : Int)) m, .ld 4 (0 + (((i : Nat) : Int) : Int).toNat * 1) (some ⟨bools (Is), 4, 1, 0, true⟩) (.val (.bool bz)), .b bz (.val (.bool true)), .b bz (.val (.bool true)), .b bz (.val (.bool true)), .b (decide (b < (0 : Int))) (.val (.bool true)), .b (decide (b < (0 : Int))) (.val (.bool true)), .b (decide (b < (0 : Int))) (.val (.bool true)), .b (decide (b < (0 : Int))) (.val (.bool true)), .b (decide (b < (0 : Int))) (.val (.bool true)), .b (decide (b < (0 : Int))) (.val (.bool true)), .b (decide (b < (0 : Int))) (.val (.bool true)), .b (decide (b < (0 : Int))) (.val (.bool true)), .b (decide (b < (0 : Int))) (.val (.bool true)), .b (decide (b < (0 : Int))) (.val (.bool true)), .b (decide (b < (0 : Int))) (.val (.bool true)), .b (decide (b < (0 : Int))) (.val (.bool true)), .b (decide (b < (0 : Int))) (.val (.bool true)), .b (decide (b < (0 : Int))) (.val (.bool true)), .b (decide (b < (0 : Int))) (.val (.bool true)), .b bz (.val (.bool true)), .b (decide (b < (0 : Int))) (.val (.bool true)), .b bz (.val (.bool true))]) := by kernel_rfl
theorem t171 (m : Nat) (K : List Int) (Is : List Bool) (N b : Int) (i : Nat) (zi : Int) (zb : Int) (bz : Bool) : rnd17 (S17 m K Is N b (i : Int) 3) [tru 14, tru 26, got 28 (.bool bz), tru 31, tru 33, tru 35, fls 37, fls 39, fls 41, fls 43, fls 45, fls 47, tru 48, fls 49, got 50 (i64 zi), fls 51, fls 53, fls 55, fls 57, fls 59, fls 61, tru 62, fls 63, got 64 (i64 zb), fls 65, tru 67, fls 68, tru 70, tru 71] 3 [(0, 0, true), (1, 1, true), (2, 2, true)] = some (.normal, some (S17 m K Is N (((i : Nat) : Int)) (IntKind.wrap .i64 ((((i : Nat) : Int)) + (1 : Int))) 3), [(robj 1 2 m N).cs, ints K, bools Is], true, [.b (decide ((((i : Nat) : Int)) < (((m : Nat) : Int)))) (.val (.bool true)), .ib (((i : Nat) : Int)) m, .ld 4 (0 + (((i : Nat) : Int) : Int).toNat * 1) (some ⟨bools (Is), 4, 1, 0, true⟩) (.val (.bool bz)), .b bz (.val (.bool true)), .b bz (.val (.bool true)), .b bz (.val (.bool true)), .b (decide (b < (0 : Int))) (.val (.bool false)), .b (decide (b < (0 : Int))) (.val (.bool false)), .b (decide (b < (0 : Int))) (.val (.bool false)), .b (decide (b < (0 : Int))) (.val (.bool false)), .b (decide (b < (0 : Int))) (.val (.bool false)), .b (decide (b < (0 : Int))) (.val (.bool false)), .ib (((i : Nat) : Int)) m, .b (decide (b < (0 : Int))) (.val (.bool false)), .ld 3 (0 + (((i : Nat) : Int) : Int).toNat * 1) (some ⟨ints (K), 3, 1, 0, true⟩) (.val (i64 zi)), .b (decide (b < (0 : Int))) (.val (.bool false)), .b (decide (b < (0 : Int))) (.val (.bool false)), .b (decide (b < (0 : Int))) (.val (.bool false)), .b (decide (b < (0 : Int))) (.val (.bool false)), .b (decide (b < (0 : Int))) (.val (.bool false)), .b (decide (b < (0 : Int))) (.val (.bool false)), .ib b m, .b (decide (b < (0 : Int))) (.val (.bool false)), .ld 3 (0 + (b : Int).toNat * 1) (some ⟨ints (K), 3, 1, 0, true⟩) (.val (i64 zb)), .b (decide (b < (0 : Int))) (.val (.bool false)), .b bz (.val (.bool true)), .b (decide (b < (0 : Int))) (.val (.bool false)), .b bz (.val (.bool true)), .b (decide (zi < zb)) (.val (.bool true))]) := by kernel_rfl
theorem t172 (m : Nat) (K : List Int) (Is : List Bool) (N b : Int) (i : Nat) (zi : Int) (zb : Int) (bz : Bool) : rnd17 (S17 m K Is N b (i : Int) 3) [tru 14, tru 26, got 28 (.bool bz), tru 31, tru 33, tru 35, fls 37, fls 39, fls 41, fls 43, fls 45, fls 47, tru 48, fls 49, got 50 (i64 zi), fls 51, fls 53, fls 55, fls 57, fls 59, fls 61, tru 62, fls 63, got 64 (i64 zb), fls 65, tru 67, fls 68, tru 70, fls 71] 3 [(0, 0, true), (1, 1, true), (2, 2, true)] = some (.normal, some (S17 m K Is N b (IntKind.wrap .i64 ((((i : Nat) : Int)) + (1 : Int))) 3), [(robj 1 2 m N).cs, ints K, bools Is], true, [.b (decide ((((i : Nat) : Int)) < (((m : Nat) : Int)))) (.val (.bool true)), .ib (((i : Nat) : Int)) m, .ld 4 (0 + (((i : Nat) : Int) : Int).toNat * 1) (some ⟨bools (Is), 4, 1, 0, true⟩) (.val (.bool bz)), .b bz (.val (.bool true)), .b bz (.val (.bool true)), .b bz (.val (.bool true)), .b (decide (b < (0 : Int))) (.val (.bool false)), .b (decide (b < (0 : Int))) (.val (.bool false)), .b (decide (b < (0 : Int))) (.val (.bool false)), .b (decide (b < (0 : Int))) (.val (.bool false)), .b (decide (b < (0 : Int))) (.val (.bool false)), .b (decide (b < (0 : Int))) (.val (.bool false)), .ib (((i : Nat) : Int)) m, .b (decide (b < (0 : Int))) (.val (.bool false)), .ld 3 (0 + (((i : Nat) : Int) : Int).toNat * 1) (some ⟨ints (K), 3, 1, 0, true⟩) (.val (i64 zi)), .b (decide (b < (0 : Int))) (.val (.bool false)), .b (decide (b < (0 : Int))) (.val (.bool false)), .b (decide (b < (0 : Int))) (.val (.bool false)), .b (decide (b < (0 : Int))) (.val (.bool false)), .b (decide (b < (0 : Int))) (.val (.bool false)), .b (decide (b < (0 : Int))) (.val (.bool false)), .ib b m, .b (decide (b < (0 : Int))) (.val (.bool false)), .ld 3 (0 + (b : Int).toNat * 1) (some ⟨ints (K), 3, 1, 0, true⟩) (.val (i64 zb)), .b (decide (b < (0 : Int))) (.val (.bool false)), .b bz (.val (.bool true)), .b (decide (b < (0 : Int))) (.val (.bool false)), .b bz (.val (.bool true)), .b (decide (zi < zb)) (.val (.bool false))]) := by kernel_rfl
theorem t173 (m : Nat) (K : List Int) (Is : List Bool) (N b : Int) (i : Nat) (bz : Bool) : rnd17 (S17 m K Is N b (i : Int) 3) [tru 14, tru 26, got 28 (.bool bz), fls 31, fls 33, fls 35, fls 67, fls 70] 3 [(0, 0, true), (1, 1, true), (2, 2, true)] = some (.normal, some (S17 m K Is N b (IntKind.wrap .i64 ((((i : Nat) : Int)) + (1 : Int))) 3), [(robj 1 2 m N).cs, ints K, bools Is], true, [.b (decide ((((i : Nat) : Int)) < (((m : Nat) : Int)))) (.val (.bool true)), .ib (((i : Nat) : Int)) m, .ld 4 (0 + (((i : Nat) : Int) : Int).toNat * 1) (some ⟨bools (Is), 4, 1, 0, true⟩) (.val (.bool bz)), .b bz (.val (.bool false)), .b bz (.val (.bool false)), .b bz (.val (.bool false)), .b bz (.val (.bool false)), .b bz (.val (.bool false))]) := by kernel_rfl
theorem t174 (m : Nat) (K : List Int) (Is : List Bool) (N b : Int) (i : Nat) : end17 (S17 m K Is N b (i : Int) 3) [fls 14] 20 [(0, 0, true), (1, 1, true), (2, 2, true)] = some ((.exit 0), some (E17 m K Is N b 20), [(robj 1 2 m N).cs, ints K, bools Is], true, [.b (decide ((((i : Nat) : Int)) < (((m : Nat) : Int)))) (.val (.bool false))]) := by kernel_rfl
theorem m170 (m : Nat) (K : List Int) (Is : List Bool) (N b : Int) (g : Code → St → Option (AExit × St)) : run17 (SP17 [(0, g)]) (fun _ => D17) m K Is N [past 10 .normal (E17 m K Is N b 20), tru 15] = some (.ret, [some ⟨[(.slice (some ⟨1, 0, none⟩) m (m + 1)), (.slice (some ⟨2, 0, none⟩) m (m + 1)), (i64 N)], 54, 3, 0, true⟩, some ⟨ints (K), 3, 1, 0, true⟩, some ⟨bools (Is), 4, 1, 0, true⟩], some (.tuple ⟨[(i64 0), (i64 0), (.bool false)]⟩), [.bk 0 (.loop loop17) 3 [] (some (S17 m K Is N (-1) 0 3)) [(robj 1 2 m N).cs, ints K, bools Is] true .normal (E17 m K Is N b 20), .b (decide (b < (0 : Int))) (.val (.bool true))]) := by kernel_rfl
theorem m171 (m : Nat) (K : List Int) (Is : List Bool) (N b : Int) (zb : Int) (g : Code → St → Option (AExit × St)) : run17 (SP17 [(0, g)]) (fun _ => D17) m K Is N [past 10 .normal (E17 m K Is N b 20), fls 15, tru 27, onto 29 (bools ((Is).set (b : Int).toNat false)), tru 59, got 61 (i64 zb)] = some (.ret, [some ⟨[(.slice (some ⟨1, 0, none⟩) m (m + 1)), (.slice (some ⟨2, 0, none⟩) m (m + 1)), (i64 (IntKind.wrap .i64 (N - (1 : Int))))], 54, 3, 0, true⟩, some ⟨ints (K), 3, 1, 0, true⟩, some ⟨bools ((Is).set (b : Int).toNat false), 4, 1, 0, true⟩], some (.tuple ⟨[(i64 b), (i64 zb), (.bool true)]⟩), [.bk 0 (.loop loop17) 3 [] (some (S17 m K Is N (-1) 0 3)) [(robj 1 2 m N).cs, ints K, bools Is] true .normal (E17 m K Is N b 20), .b (decide (b < (0 : Int))) (.val (.bool false)), .ib b m, .st 4 (0 + (b : Int).toNat * 1) (.bool false) (bools ((Is).set (b : Int).toNat false)) ⟨bools (Is), 4, 1, 0, true⟩, .ib b m, .ld 3 (0 + (b : Int).toNat * 1) (some ⟨ints (K), 3, 1, 0, true⟩) (.val (i64 zb))]) := by kernel_rfl
end Go.Proofs.Ythocfeccinpbmaa
open Go Go.Am Go.Proofs
namespace Go.Proofs.Ythocfeccinpbmaa
set_option maxRecDepth 100000

structure RS where
  K : List Int
  Is : List Bool
  N : Int
structure RX where
  x : Nat
  k : Nat
  is : Nat
  t : RS
structure RX.At (r : RX) (M : Mem) : Prop where
  obj : M.get r.x = some (robj r.k r.is r.t.K.length r.t.N)
  ks : M.get r.k = some (own (ints r.t.K) 3 1)
  iss : M.get r.is = some (own (bools r.t.Is) 4 1)
  dist : Go.Am.distinct [r.x, r.k, r.is] = true
  same : r.t.Is.length = r.t.K.length
theorem bools_inj {a b : List Bool} (h : bools a = bools b) : a = b := by
  induction a generalizing b with
  | nil => cases b with
    | nil => rfl
    | cons y b => simp [bools] at h
  | cons x a ih => cases b with
    | nil => simp [bools] at h
    | cons y b =>
      simp only [bools, List.map_cons, List.cons.injEq, Value.bool.injEq] at h
      rw [h.1, ih h.2]
theorem RX.inj {a b : RX} {M : Mem} (hp : a.x = b.x) (hx : a.At M) (hy : b.At M) : a = b := by
  obtain ⟨x, k, is, ⟨K, Is, N⟩⟩ := a
  obtain ⟨x', k', is', ⟨K', Is', N'⟩⟩ := b
  simp only at hp
  subst hp
  have h1 : M.get x = _ := hx.obj
  have h2 : M.get x = _ := hy.obj
  rw [h1] at h2
  simp only [robj, own, Option.some.injEq, ABlk.mk.injEq, List.cons.injEq, Value.slice.injEq, Value.int.injEq, Addr.mk.injEq, and_true, true_and] at h2
  obtain ⟨⟨rfl, _⟩, ⟨rfl, _⟩, rfl⟩ := h2
  have h3 : M.get k = _ := hx.ks
  have h4 : M.get k = _ := hy.ks
  rw [h3] at h4
  simp only [own, Option.some.injEq, ABlk.mk.injEq, and_true] at h4
  have h5 : M.get is = _ := hx.iss
  have h6 : M.get is = _ := hy.iss
  rw [h5] at h6
  simp only [own, Option.some.injEq, ABlk.mk.injEq, and_true] at h6
  rw [ints_inj h4, bools_inj h6]
theorem rsmall_in {M : Mem} {r : RX} (h : r.At M) : ∀ q ∈ rsmall r.t.K.length r.t.K r.t.Is r.t.N, ∃ (a : Nat) (c : ABlk), [r.x, r.k, r.is][q.1]? = some a ∧ M.get a = some c ∧ renL (mvIn 0 [r.x, r.k, r.is]) c.cs = some q.2.cs ∧ c = { q.2 with cs := c.cs } := fun q hq => by
  simp only [rsmall, List.mem_cons, List.not_mem_nil, or_false] at hq
  have t1 : toTgt (mvIn 0 [r.x, r.k, r.is]) r.k = some 1 := toTgt_in (t := 1) h.dist rfl
  have t2 : toTgt (mvIn 0 [r.x, r.k, r.is]) r.is = some 2 := toTgt_in (t := 2) h.dist rfl
  rcases hq with rfl | rfl | rfl
  · refine ⟨_, _, rfl, h.obj, ?_, rfl⟩
    simp only [robj, own, renL, renV, renAddr, t1, t2, leaf, cond_true]
  · exact ⟨_, _, rfl, h.ks, renL_flat _ _ (ints_flat _), rfl⟩
  · exact ⟨_, _, rfl, h.iss, renL_flat _ _ (bools_flat _), rfl⟩
theorem rsmall_lt {M : Mem} {r : RX} (h : r.At M) : ∀ (j a : Nat), [r.x, r.k, r.is][j]? = some a → a < M.next := fun j a hj => by
  match j, hj with
  | 0, hj => simp at hj; subst hj; exact (get_spec.1 h.obj).1
  | 1, hj => simp at hj; subst hj; exact (get_spec.1 h.ks).1
  | 2, hj => simp at hj; subst hj; exact (get_spec.1 h.iss).1
  | n + 3, hj => simp at hj
def rturned (r : RX) (t : RS) : List (Nat × Option ABlk) := [(r.x, some (robj r.k r.is t.K.length t.N)), (r.k, some (own (ints t.K) 3 1)), (r.is, some (own (bools t.Is) 4 1))]
theorem rInPlace {f : FuncId} {r : RX} {M : Mem} (h : r.At M) {args : List Value} {n : Nat} {SP : Specs} {args0 : List Value} {v : Value} {t : RS} {M0 : Mem} (hS : ∀ B, SpecsOk Try.prog [] B SP)
    (hr : Go.Am.arun Try.prog [] SP n f args0 (startMem (rsmall r.t.K.length r.t.K r.t.Is r.t.N) 3) = some (v, M0)) (hg : [0, 1, 2].map M0.get = [some (robj 1 2 t.K.length t.N), some (own (ints t.K) 3 1), some (own (bools t.Is) 4 1)])
    (ha : renL (mvIn 0 [r.x, r.k, r.is]) args = some args0) (hv : flat v = true) :
    ∃ src l n SP args0 v0 M0 keepJ newsS, FromMut Try.prog f args M v (rturned r t) [] src l n SP args0 v0 M0 keepJ newsS := by
  simp only [List.map_cons, List.map_nil, List.cons.injEq, and_true] at hg
  obtain ⟨g0, g1, g2⟩ := hg
  refine ⟨[r.x, r.k, r.is], rsmall r.t.K.length r.t.K r.t.Is r.t.N, n, SP, args0, v, M0, [0, 1, 2], [], hS, hr, h.dist, rsmall_in h, ha, fun t' ht hlt => ?_, rsmall_lt h, fun a ha => ?_, fun j hj => ?_, fun a b hab => ?_, fun i b hb => (by simp at hb), rfl, rfl, fun s hs => (by cases hs), renV_flat _ _ hv⟩
  · match t', hlt with
    | 0, _ => exact ⟨⟨(0, robj 1 2 r.t.K.length r.t.N), by simp [rsmall], rfl, .inl rfl⟩, r.x, rfl, by simp [rturned]⟩
    | 1, _ => exact ⟨⟨(1, own (ints r.t.K) 3 1), by simp [rsmall], rfl, .inl rfl⟩, r.k, rfl, by simp [rturned]⟩
    | 2, _ => exact ⟨⟨(2, own (bools r.t.Is) 4 1), by simp [rsmall], rfl, .inl rfl⟩, r.is, rfl, by simp [rturned]⟩
    | n + 3, h => exact absurd (show n + 3 < 3 from h) (by omega)
  · simp only [rturned, List.map_cons, List.map_nil, List.mem_cons, List.not_mem_nil, or_false] at ha
    rcases ha with rfl | rfl | rfl
    · exact ⟨0, rfl⟩
    · exact ⟨1, rfl⟩
    · exact ⟨2, rfl⟩
  · simp only [List.mem_cons, List.not_mem_nil, or_false] at hj
    rcases hj with rfl | rfl | rfl <;> simp
  · simp only [rturned, List.mem_cons, List.not_mem_nil, or_false, Prod.mk.injEq, Option.some.injEq] at hab
    rcases hab with ⟨rfl, rfl⟩ | ⟨rfl, rfl⟩ | ⟨rfl, rfl⟩
    · exact ⟨0, _, by simp, rfl, g0, ⟨[], rfl⟩, rfl⟩
    · exact ⟨1, _, by simp, rfl, g1, ⟨[], by rw [List.append_nil]; exact renL_flat _ _ (ints_flat _)⟩, rfl⟩
    · exact ⟨2, _, by simp, rfl, g2, ⟨[], by rw [List.append_nil]; exact renL_flat _ _ (bools_flat _)⟩, rfl⟩

/- Put, by itself. -/
def rputR (t : RS) (id key : Int) : Bool × RS :=
  if 0 ≤ id ∧ id < (t.K.length : Int) then
    if t.Is.getD id.toNat false = true then
      if t.K.getD id.toNat 0 ≤ key then (false, t) else (true, ⟨t.K.set id.toNat key, t.Is.set id.toNat true, t.N⟩)
    else (true, ⟨t.K.set id.toNat key, t.Is.set id.toNat true, IntKind.wrap .i64 (t.N + 1)⟩)
  else (false, t)
theorem getD_some {α : Type} {l : List α} {k : Nat} {d : α} (h : k < l.length) : l[k]? = some (l.getD k d) := by rw [List.getD_eq_getElem?_getD, List.getElem?_eq_getElem h]; rfl
theorem arun21 (t : RS) (id key : Int) (hs : t.Is.length = t.K.length) : ∃ M0, Go.Am.arun Try.prog [] noSpecs 200 21 [pt 0 0, i64 id, i64 key] (startMem (rsmall t.K.length t.K t.Is t.N) 3) = some (.bool (rputR t id key).1, M0) ∧
    [0, 1, 2].map M0.get = [some (robj 1 2 (rputR t id key).2.K.length (rputR t id key).2.N), some (own (ints (rputR t id key).2.K) 3 1), some (own (bools (rputR t id key).2.Is) 4 1)] := by
  obtain ⟨K, Is, N⟩ := t
  simp only at hs
  obtain ⟨m, hm⟩ : ∃ m, K.length = m := ⟨_, rfl⟩
  have hnt : Nat.ble 3 Try.f21.ntmps = true := by kernel_rfl
  unfold rputR
  simp only [hm]
  by_cases h0 : 0 ≤ id
  · by_cases h1 : id < (m : Int)
    · rw [if_pos ⟨h0, h1⟩]
      obtain ⟨bz, hbd⟩ : ∃ bz, Is.getD id.toNat false = bz := ⟨_, rfl⟩
      have hb : Is[id.toNat]? = some bz := by rw [← hbd]; exact getD_some (by omega)
      obtain ⟨z, hzd⟩ : ∃ z, K.getD id.toNat 0 = z := ⟨_, rfl⟩
      have hz : K[id.toNat]? = some z := by rw [← hzd]; exact getD_some (by omega)
      rw [hbd]
      cases bz with
      | true =>
        rw [if_pos rfl, hzd]
        by_cases hle : z ≤ key
        · rw [if_pos hle]
          simp only [hm]
          have h := r212 m K Is N id key z true
          unfold run21 at h
          obtain ⟨M0, k1, k2⟩ := xrun_of (look := fun M => [0, 1, 2].map M.get) Try.func21 body21 (by exact hnt) h (.inr rfl) (hold_cons (qdn (by omega)) (hold_cons (qdn (by omega)) (hold_cons (qdn (by omega)) (hold_cons (qdn (by omega)) (hold_cons (qdn (by omega)) (hold_cons (qdn (by omega)) (hold_cons (qdn (by omega)) (hold_cons (qdn (by omega)) (hold_cons (qdn (by omega)) (hold_cons (qdn (by omega)) (hold_cons (qdn (by omega)) (hold_cons (qdn (by omega)) (hold_cons (qdn (by omega)) (hold_cons (qdn (by omega)) (hold_cons (qib (by omega)) (hold_cons (qdn (by omega)) (hold_cons (ldB hb) (hold_cons (qdn (by omega)) (hold_cons (qb (by simp <;> omega)) (hold_cons (qb (by simp <;> omega)) (hold_cons (qb (by simp <;> omega)) (hold_cons (qb (by simp <;> omega)) (hold_cons (qb (by simp <;> omega)) (hold_cons (qb (by simp <;> omega)) (hold_cons (qib (by omega)) (hold_cons (qb (by simp <;> omega)) (hold_cons (ldI hz) (hold_cons (qb (by simp <;> omega)) (hold_cons (qb (by simp <;> omega)) (hold_cons (qdn (by omega)) (hold_cons (qb (by simp <;> omega)) (hold_cons (qdn (by omega)) (hold_cons (qd (by omega)) hold_nil)))))))))))))))))))))))))))))))))
          exact ⟨M0, k1, k2⟩
        · rw [if_neg hle]
          simp only [List.length_set, hm]
          have h := r213 m K Is N id key z true
          unfold run21 at h
          obtain ⟨M0, k1, k2⟩ := xrun_of (look := fun M => [0, 1, 2].map M.get) Try.func21 body21 (by exact hnt) h (.inr rfl) (hold_cons (qdn (by omega)) (hold_cons (qdn (by omega)) (hold_cons (qdn (by omega)) (hold_cons (qdn (by omega)) (hold_cons (qdn (by omega)) (hold_cons (qdn (by omega)) (hold_cons (qdn (by omega)) (hold_cons (qdn (by omega)) (hold_cons (qdn (by omega)) (hold_cons (qdn (by omega)) (hold_cons (qdn (by omega)) (hold_cons (qdn (by omega)) (hold_cons (qdn (by omega)) (hold_cons (qdn (by omega)) (hold_cons (qib (by omega)) (hold_cons (qdn (by omega)) (hold_cons (ldB hb) (hold_cons (qdn (by omega)) (hold_cons (qb (by simp <;> omega)) (hold_cons (qb (by simp <;> omega)) (hold_cons (qb (by simp <;> omega)) (hold_cons (qb (by simp <;> omega)) (hold_cons (qb (by simp <;> omega)) (hold_cons (qb (by simp <;> omega)) (hold_cons (qib (by omega)) (hold_cons (qb (by simp <;> omega)) (hold_cons (ldI hz) (hold_cons (qb (by simp <;> omega)) (hold_cons (qb (by simp <;> omega)) (hold_cons (qdn (by omega)) (hold_cons (qb (by simp <;> omega)) (hold_cons (qdn (by omega)) (hold_cons (qdn (by omega)) (hold_cons (qib (by omega)) (hold_cons (ldB hb) (hold_cons (qb (by simp <;> omega)) (hold_cons (qib (by omega)) (hold_cons (stI (by omega)) (hold_cons (qib (by omega)) (hold_cons (stB (by omega)) hold_nil))))))))))))))))))))))))))))))))))))))))
          exact ⟨M0, k1, k2⟩
      | false =>
        rw [if_neg (by decide)]
        simp only [List.length_set, hm]
        have h := r214 m K Is N id key false
        unfold run21 at h
        obtain ⟨M0, k1, k2⟩ := xrun_of (look := fun M => [0, 1, 2].map M.get) Try.func21 body21 (by exact hnt) h (.inr rfl) (hold_cons (qdn (by omega)) (hold_cons (qdn (by omega)) (hold_cons (qdn (by omega)) (hold_cons (qdn (by omega)) (hold_cons (qdn (by omega)) (hold_cons (qdn (by omega)) (hold_cons (qdn (by omega)) (hold_cons (qdn (by omega)) (hold_cons (qdn (by omega)) (hold_cons (qdn (by omega)) (hold_cons (qdn (by omega)) (hold_cons (qdn (by omega)) (hold_cons (qdn (by omega)) (hold_cons (qdn (by omega)) (hold_cons (qib (by omega)) (hold_cons (qdn (by omega)) (hold_cons (ldB hb) (hold_cons (qdn (by omega)) (hold_cons (qb (by simp <;> omega)) (hold_cons (qb (by simp <;> omega)) (hold_cons (qb (by simp <;> omega)) (hold_cons (qb (by simp <;> omega)) (hold_cons (qb (by simp <;> omega)) (hold_cons (qb (by simp <;> omega)) (hold_cons (qb (by simp <;> omega)) (hold_cons (qb (by simp <;> omega)) (hold_cons (qb (by simp <;> omega)) (hold_cons (qdn (by omega)) (hold_cons (qb (by simp <;> omega)) (hold_cons (qdn (by omega)) (hold_cons (qib (by omega)) (hold_cons (ldB hb) (hold_cons (qb (by simp <;> omega)) (hold_cons (qib (by omega)) (hold_cons (stI (by omega)) (hold_cons (qib (by omega)) (hold_cons (stB (by omega)) hold_nil)))))))))))))))))))))))))))))))))))))
        exact ⟨M0, k1, k2⟩
    · rw [if_neg (by omega)]
      simp only [hm]
      have h := r211 m K Is N id key
      unfold run21 at h
      obtain ⟨M0, k1, k2⟩ := xrun_of (look := fun M => [0, 1, 2].map M.get) Try.func21 body21 (by exact hnt) h (.inr rfl) (hold_cons (qdn (by omega)) (hold_cons (qdn (by omega)) (hold_cons (qdn (by omega)) (hold_cons (qdn (by omega)) (hold_cons (qdn (by omega)) (hold_cons (qdn (by omega)) (hold_cons (qdn (by omega)) (hold_cons (qdn (by omega)) (hold_cons (qd (by omega)) (hold_cons (qd (by omega)) (hold_cons (qd (by omega)) (hold_cons (qd (by omega)) (hold_cons (qd (by omega)) (hold_cons (qd (by omega)) (hold_cons (qd (by omega)) (hold_cons (qd (by omega)) (hold_cons (qd (by omega)) (hold_cons (qd (by omega)) hold_nil))))))))))))))))))
      exact ⟨M0, k1, k2⟩
  · rw [if_neg (by omega)]
    simp only [hm]
    have h := r210 m K Is N id key
    unfold run21 at h
    obtain ⟨M0, k1, k2⟩ := xrun_of (look := fun M => [0, 1, 2].map M.get) Try.func21 body21 (by exact hnt) h (.inr rfl) (hold_cons (qd (by omega)) (hold_cons (qd (by omega)) (hold_cons (qd (by omega)) (hold_cons (qd (by omega)) (hold_cons (qd (by omega)) (hold_cons (qd (by omega)) (hold_cons (qd (by omega)) (hold_cons (qd (by omega)) hold_nil))))))))
    exact ⟨M0, k1, k2⟩

structure TX where
  r : RX
  id : Int
  key : Int
def TD (x : TX) (args : List Value) (M : Mem) : Prop := x.r.At M ∧ args = [pt x.r.x 0, i64 x.id, i64 x.key]
def TR (x : TX) (_ : Mem) : Value × List (Nat × Option ABlk) × List ABlk := (.bool (rputR x.r.t x.id x.key).1, rturned x.r (rputR x.r.t x.id x.key).2, [])
theorem TD.inj : ∀ args M (x y : TX), TD x args M → TD y args M → x = y := fun args M x y ⟨h1, h2⟩ ⟨k1, k2⟩ => by
  subst h2
  obtain ⟨q, i0, n1⟩ := x
  obtain ⟨q', i0', n1'⟩ := y
  simp only [List.cons.injEq, Value.pointer.injEq, Option.some.injEq, Addr.mk.injEq, Value.int.injEq, and_true, true_and] at k2
  obtain ⟨e1, e2, e3⟩ := k2
  obtain rfl := RX.inj e1 h1 k1
  subst e2; subst e3; rfl
theorem ok21 (B : Nat) : SpecOk Try.prog [] B 21 (gOf TD TR) := SpecOk.gOf noNumP mixedP fun x args M h => by
  obtain ⟨⟨r, id, key⟩, rfl⟩ : ∃ y, x = y := ⟨x, rfl⟩
  obtain ⟨h1, rfl⟩ := h
  simp only at h1
  obtain ⟨M0, k1, k2⟩ := arun21 r.t id key h1.same
  have t0 : toTgt (mvIn 0 [r.x, r.k, r.is]) r.x = some 0 := toTgt_in (t := 0) h1.dist rfl
  exact rInPlace h1 (fun B => SpecsOk.none) k1 k2 (by simp only [renL, renV, renAddr, t0, leaf, cond_true]) rfl

/- Pop, by itself. -/
def bestR (K : List Int) (Is : List Bool) : Nat → Int
  | 0 => -1
  | i + 1 => if Is.getD i false = true then (if bestR K Is i < 0 then (i : Int) else if K.getD i 0 < K.getD (bestR K Is i).toNat 0 then (i : Int) else bestR K Is i) else bestR K Is i
theorem bestR_range (K : List Int) (Is : List Bool) : ∀ i, -1 ≤ bestR K Is i ∧ bestR K Is i < (i : Int)
  | 0 => by unfold bestR; omega
  | i + 1 => by
    have := bestR_range K Is i
    unfold bestR
    split
    · split
      · omega
      · split <;> omega
    · omega
def rpopR (t : RS) : Value × RS :=
  if bestR t.K t.Is t.K.length < 0 then (.tuple ⟨[i64 0, i64 0, .bool false]⟩, t)
  else (.tuple ⟨[i64 (bestR t.K t.Is t.K.length), i64 (t.K.getD (bestR t.K t.Is t.K.length).toNat 0), .bool true]⟩, ⟨t.K, t.Is.set (bestR t.K t.Is t.K.length).toNat false, IntKind.wrap .i64 (t.N - 1)⟩)
theorem specs17 (bs : List (Nat × (Code → St → Option (AExit × St)))) (B : Nat) (hb : ∀ p ∈ bs, BlkOk Try.prog [] B p.1 p.2) : SpecsOk Try.prog [] B (SP17 bs) := specsB_ok (fun p hp => by cases hp) hb
def I17 (m : Nat) (K : List Int) (Is : List Bool) (N : Int) (i : Nat) : St := S17 m K Is N (bestR K Is i) (i : Int) 3
theorem loop17_ok (K : List Int) (Is : List Bool) (N : Int) (m : Nat) (hm : K.length = m) (hs : Is.length = m) (hbig : m ≤ 2 ^ 40) (B : Nat) : BlkOk Try.prog [] B 0 (loopG (.loop loop17) D17 (I17 m K Is N 0) (.normal, E17 m K Is N (bestR K Is m) 20)) := by
  refine loopG_ok noNumP mixedP (I17 m K Is N) (fun i => i ≤ m) (fun i => m - i) (e := .exit 0) (K := 20) (by intro h; cases h) (Nat.zero_le _) (by decide) rfl rfl rfl (fun id h1 h2 => ?_) (fun i hi => ?_)
  · match id, h1 with
    | 0, _ => exact absurd (by decide) h2
    | 1, _ => exact absurd (by decide) h2
    | 2, _ => exact absurd (by decide) h2
    | n + 3, h => exact absurd (show n + 3 < 3 from h) (by omega)
  · have hS := specs17 [] B (fun p hp => by cases hp)
    have hr := bestR_range K Is i
    have hw : IntKind.wrap .i64 (((i : Nat) : Int) + (1 : Int)) = ((i + 1 : Nat) : Int) := by rw [IntWalk.i64_in _ (by omega)]; omega
    by_cases hlt : i < m
    · obtain ⟨bz, hbd⟩ : ∃ bz, Is.getD i false = bz := ⟨_, rfl⟩
      have hb : Is[i]? = some bz := by rw [← hbd]; exact getD_some (by omega)
      have hzi : K[i]? = some (K.getD i 0) := getD_some (by omega)
      cases bz with
      | true =>
        by_cases hb0 : bestR K Is i < 0
        · have hbb : bestR K Is (i + 1) = (i : Int) := by rw [bestR]; rw [hbd, if_pos rfl, if_pos hb0]
          have h := t170 m K Is N (bestR K Is i) i true
          unfold rnd17 at h
          rw [hw] at h
          obtain ⟨s1, k1, k2, k3⟩ := xround_of h (hold_cons (qd (by omega)) (hold_cons (qib (by omega)) (hold_cons (ldB hb) (hold_cons (qb (by simp <;> omega)) (hold_cons (qb (by simp <;> omega)) (hold_cons (qb (by simp <;> omega)) (hold_cons (qd (by omega)) (hold_cons (qd (by omega)) (hold_cons (qd (by omega)) (hold_cons (qd (by omega)) (hold_cons (qd (by omega)) (hold_cons (qd (by omega)) (hold_cons (qd (by omega)) (hold_cons (qd (by omega)) (hold_cons (qd (by omega)) (hold_cons (qd (by omega)) (hold_cons (qd (by omega)) (hold_cons (qd (by omega)) (hold_cons (qd (by omega)) (hold_cons (qd (by omega)) (hold_cons (qd (by omega)) (hold_cons (qb (by simp <;> omega)) (hold_cons (qd (by omega)) (hold_cons (qb (by simp <;> omega)) hold_nil)))))))))))))))))))))))) (still_cons rfl (still_cons (renL_flat _ _ (ints_flat _)) (still_cons (renL_flat _ _ (bools_flat _)) still_nil)))
          exact ⟨_, 200, s1, hS, k1, .inl ⟨_, _, _, i + 1, k2, (by unfold I17; rw [hbb]; exact k3), by omega, by omega⟩⟩
        · have hzb : K[(bestR K Is i).toNat]? = some (K.getD (bestR K Is i).toNat 0) := getD_some (by omega)
          by_cases hl : K.getD i 0 < K.getD (bestR K Is i).toNat 0
          · have hbb : bestR K Is (i + 1) = (i : Int) := by rw [bestR]; rw [hbd, if_pos rfl, if_neg hb0, if_pos hl]
            have h := t171 m K Is N (bestR K Is i) i (K.getD i 0) (K.getD (bestR K Is i).toNat 0) true
            unfold rnd17 at h
            rw [hw] at h
            obtain ⟨s1, k1, k2, k3⟩ := xround_of h (hold_cons (qd (by omega)) (hold_cons (qib (by omega)) (hold_cons (ldB hb) (hold_cons (qb (by simp <;> omega)) (hold_cons (qb (by simp <;> omega)) (hold_cons (qb (by simp <;> omega)) (hold_cons (qdn (by omega)) (hold_cons (qdn (by omega)) (hold_cons (qdn (by omega)) (hold_cons (qdn (by omega)) (hold_cons (qdn (by omega)) (hold_cons (qdn (by omega)) (hold_cons (qib (by omega)) (hold_cons (qdn (by omega)) (hold_cons (ldI hzi) (hold_cons (qdn (by omega)) (hold_cons (qdn (by omega)) (hold_cons (qdn (by omega)) (hold_cons (qdn (by omega)) (hold_cons (qdn (by omega)) (hold_cons (qdn (by omega)) (hold_cons (qib (by omega)) (hold_cons (qdn (by omega)) (hold_cons (ldI hzb) (hold_cons (qdn (by omega)) (hold_cons (qb (by simp <;> omega)) (hold_cons (qdn (by omega)) (hold_cons (qb (by simp <;> omega)) (hold_cons (qd (by omega)) hold_nil))))))))))))))))))))))))))))) (still_cons rfl (still_cons (renL_flat _ _ (ints_flat _)) (still_cons (renL_flat _ _ (bools_flat _)) still_nil)))
            exact ⟨_, 200, s1, hS, k1, .inl ⟨_, _, _, i + 1, k2, (by unfold I17; rw [hbb]; exact k3), by omega, by omega⟩⟩
          · have hbb : bestR K Is (i + 1) = bestR K Is i := by rw [bestR]; rw [hbd, if_pos rfl, if_neg hb0, if_neg hl]
            have h := t172 m K Is N (bestR K Is i) i (K.getD i 0) (K.getD (bestR K Is i).toNat 0) true
            unfold rnd17 at h
            rw [hw] at h
            obtain ⟨s1, k1, k2, k3⟩ := xround_of h (hold_cons (qd (by omega)) (hold_cons (qib (by omega)) (hold_cons (ldB hb) (hold_cons (qb (by simp <;> omega)) (hold_cons (qb (by simp <;> omega)) (hold_cons (qb (by simp <;> omega)) (hold_cons (qdn (by omega)) (hold_cons (qdn (by omega)) (hold_cons (qdn (by omega)) (hold_cons (qdn (by omega)) (hold_cons (qdn (by omega)) (hold_cons (qdn (by omega)) (hold_cons (qib (by omega)) (hold_cons (qdn (by omega)) (hold_cons (ldI hzi) (hold_cons (qdn (by omega)) (hold_cons (qdn (by omega)) (hold_cons (qdn (by omega)) (hold_cons (qdn (by omega)) (hold_cons (qdn (by omega)) (hold_cons (qdn (by omega)) (hold_cons (qib (by omega)) (hold_cons (qdn (by omega)) (hold_cons (ldI hzb) (hold_cons (qdn (by omega)) (hold_cons (qb (by simp <;> omega)) (hold_cons (qdn (by omega)) (hold_cons (qb (by simp <;> omega)) (hold_cons (qdn (by omega)) hold_nil))))))))))))))))))))))))))))) (still_cons rfl (still_cons (renL_flat _ _ (ints_flat _)) (still_cons (renL_flat _ _ (bools_flat _)) still_nil)))
            exact ⟨_, 200, s1, hS, k1, .inl ⟨_, _, _, i + 1, k2, (by unfold I17; rw [hbb]; exact k3), by omega, by omega⟩⟩
      | false =>
        have hbb : bestR K Is (i + 1) = bestR K Is i := by rw [bestR]; rw [hbd, if_neg (by decide)]
        have h := t173 m K Is N (bestR K Is i) i false
        unfold rnd17 at h
        rw [hw] at h
        obtain ⟨s1, k1, k2, k3⟩ := xround_of h (hold_cons (qd (by omega)) (hold_cons (qib (by omega)) (hold_cons (ldB hb) (hold_cons (qb (by simp <;> omega)) (hold_cons (qb (by simp <;> omega)) (hold_cons (qb (by simp <;> omega)) (hold_cons (qb (by simp <;> omega)) (hold_cons (qb (by simp <;> omega)) hold_nil)))))))) (still_cons rfl (still_cons (renL_flat _ _ (ints_flat _)) (still_cons (renL_flat _ _ (bools_flat _)) still_nil)))
        exact ⟨_, 200, s1, hS, k1, .inl ⟨_, _, _, i + 1, k2, (by unfold I17; rw [hbb]; exact k3), by omega, by omega⟩⟩
    · have he : i = m := by omega
      subst he
      have h := t174 i K Is N (bestR K Is i) i
      unfold end17 at h
      obtain ⟨s1, k1, k2, k3⟩ := xround_of h (hold_cons (qdn (by omega)) hold_nil) (still_cons rfl (still_cons (renL_flat _ _ (ints_flat _)) (still_cons (renL_flat _ _ (bools_flat _)) still_nil)))
      exact ⟨_, 200, s1, hS, k1, .inr ⟨_, _, k2, k3⟩⟩
theorem arun17 (t : RS) (hs : t.Is.length = t.K.length) (hbig : t.K.length ≤ 2 ^ 40) : ∃ SP M0, (∀ B, SpecsOk Try.prog [] B SP) ∧ Go.Am.arun Try.prog [] SP 200 17 [pt 0 0] (startMem (rsmall t.K.length t.K t.Is t.N) 3) = some ((rpopR t).1, M0) ∧
    [0, 1, 2].map M0.get = [some (robj 1 2 (rpopR t).2.K.length (rpopR t).2.N), some (own (ints (rpopR t).2.K) 3 1), some (own (bools (rpopR t).2.Is) 4 1)] := by
  obtain ⟨K, Is, N⟩ := t
  simp only at hs hbig
  obtain ⟨m, hm⟩ : ∃ m, K.length = m := ⟨_, rfl⟩
  have hnt : Nat.ble 1 Try.f17.ntmps = true := by kernel_rfl
  have hS := fun B => specs17 [(0, loopG (.loop loop17) D17 (I17 m K Is N 0) (.normal, E17 m K Is N (bestR K Is m) 20))] B (fun p hp => by rw [List.mem_singleton.1 hp]; exact loop17_ok K Is N m hm (by omega) (by omega) B)
  have hr := bestR_range K Is m
  unfold rpopR
  simp only [hm]
  by_cases hb0 : bestR K Is m < 0
  · rw [if_pos hb0]
    simp only [hm]
    have h := m170 m K Is N (bestR K Is m) (loopG (.loop loop17) D17 (I17 m K Is N 0) (.normal, E17 m K Is N (bestR K Is m) 20))
    unfold run17 at h
    obtain ⟨M0, k1, k2⟩ := xrun_of (look := fun M => [0, 1, 2].map M.get) Try.func17 body17 (by exact hnt) h (.inr rfl) (hold_cons (qbk rfl rfl rfl (still_cons rfl (still_cons (renL_flat _ _ (ints_flat _)) (still_cons (renL_flat _ _ (bools_flat _)) still_nil)))) (hold_cons (qd (by omega)) hold_nil))
    exact ⟨_, M0, hS, k1, k2⟩
  · rw [if_neg hb0]
    simp only [hm]
    have hzb : K[(bestR K Is m).toNat]? = some (K.getD (bestR K Is m).toNat 0) := getD_some (by omega)
    have h := m171 m K Is N (bestR K Is m) (K.getD (bestR K Is m).toNat 0) (loopG (.loop loop17) D17 (I17 m K Is N 0) (.normal, E17 m K Is N (bestR K Is m) 20))
    unfold run17 at h
    obtain ⟨M0, k1, k2⟩ := xrun_of (look := fun M => [0, 1, 2].map M.get) Try.func17 body17 (by exact hnt) h (.inr rfl) (hold_cons (qbk rfl rfl rfl (still_cons rfl (still_cons (renL_flat _ _ (ints_flat _)) (still_cons (renL_flat _ _ (bools_flat _)) still_nil)))) (hold_cons (qdn (by omega)) (hold_cons (qib (by omega)) (hold_cons (stB (by omega)) (hold_cons (qib (by omega)) (hold_cons (ldI hzb) hold_nil))))))
    exact ⟨_, M0, hS, k1, k2⟩
def ZD (x : RX) (args : List Value) (M : Mem) : Prop := x.At M ∧ args = [pt x.x 0] ∧ x.t.K.length ≤ 2 ^ 40
def ZR (x : RX) (_ : Mem) : Value × List (Nat × Option ABlk) × List ABlk := ((rpopR x.t).1, rturned x (rpopR x.t).2, [])
theorem ZD.inj : ∀ args M (x y : RX), ZD x args M → ZD y args M → x = y := fun args M x y ⟨h1, h2, _⟩ ⟨k1, k2, _⟩ => by
  subst h2
  simp only [List.cons.injEq, Value.pointer.injEq, Option.some.injEq, Addr.mk.injEq, and_true] at k2
  exact RX.inj k2 h1 k1
theorem ok17 (B : Nat) : SpecOk Try.prog [] B 17 (gOf ZD ZR) := SpecOk.gOf noNumP mixedP fun r args M h => by
  obtain ⟨h1, rfl, h3⟩ := h
  obtain ⟨SP, M0, hS, k1, k2⟩ := arun17 r.t h1.same h3
  have t0 : toTgt (mvIn 0 [r.x, r.k, r.is]) r.x = some 0 := toTgt_in (t := 0) h1.dist rfl
  exact rInPlace h1 hS k1 k2 (by simp only [renL, renV, renAddr, t0]) (by
    show flat (rpopR r.t).1 = true
    unfold rpopR
    split <;> rfl)
end Go.Proofs.Ythocfeccinpbmaa

open Go Go.Am Go.Proofs
namespace Go.Proofs.Ythocfeccinpbmaa
set_option maxRecDepth 100000

/- The queue and the document's own say the same. -/
structure Same (m : Nat) (s : QS) (t : RS) : Prop where
  ok : s.Ok
  lp : s.Pl.length = m
  lk : t.K.length = m
  li : t.Is.length = m
  mem : ∀ (i : Nat) (k : Int), i < m → (((i : Int), k) ∈ s.es ↔ t.Is.getD i false = true ∧ t.K.getD i 0 = k)
  num : t.N = (s.es.length : Int)

theorem QS.range {s : QS} (h : s.Ok) {e : En} (he : e ∈ s.es) : 0 ≤ e.1 ∧ e.1 < (s.Pl.length : Int) := by
  obtain ⟨k, hk, rfl⟩ := mem_at.1 he
  exact h.wf.lo _ _ (eAt_get hk)
theorem getD_set {α : Type} {l : List α} {k j : Nat} {a d : α} (h : k < l.length) : (l.set k a).getD j d = if j = k then a else l.getD j d := by
  rw [List.getD_eq_getElem?_getD, List.getElem?_set]
  by_cases hk : j = k
  · subst hk; rw [if_pos rfl, if_pos rfl, if_pos h]; rfl
  · rw [if_neg (Ne.symm hk), if_neg hk, List.getD_eq_getElem?_getD]
theorem putR_len {E : List En} {Pl : List Int} (h : QOk E Pl) {id key : Int} (hp : puts E Pl.length id key) : ((∃ k, (id, k) ∈ E) → (putR E Pl id key).2.1.length = E.length) ∧ ((¬ ∃ k, (id, k) ∈ E) → (putR E Pl id key).2.1.length = E.length + 1) := by
  obtain ⟨h0, h1, h2⟩ := hp
  have hg : Pl[id.toNat]? = some (Pl.getD id.toNat 0) := getD_some (by omega)
  unfold putR
  rw [if_pos ⟨h0, h1⟩]
  by_cases hz : Pl.getD id.toNat 0 = 0
  · rw [if_pos hz]
    have hno : ¬ ∃ k, (id, k) ∈ E := fun ⟨k, hk⟩ => by
      obtain ⟨j, hj, he⟩ := mem_at.1 hk
      have := h.wf.at' j (id, k) (by rw [eAt_get hj, he])
      simp only at this
      rw [hg, hz] at this
      have := Option.some.inj this
      omega
    refine ⟨fun hh => absurd hh hno, fun _ => ?_⟩
    obtain ⟨_, u4, _⟩ := (h.wf.push (key := key) h0 h1 (by rw [hg, hz])).up E.length (by simp)
    simp only
    rw [u4]; simp
  · rw [if_neg hz]
    obtain ⟨k, e, k1, k2, k3⟩ := (h.wf.no _ _ hg).resolve_left hz
    have hk : k < E.length := (List.getElem?_eq_some_iff.1 k1).1
    have hkk : (Pl.getD id.toNat 0 - 1).toNat = k := by omega
    have he := eAt_of k1
    have hid : (eAt E k).1 = id := by rw [he]; omega
    have hin : ((id, (eAt E k).2) : En) ∈ E := by
      rw [← hid]
      exact List.mem_of_getElem? (eAt_get hk)
    have hlow : key < (eAt E k).2 := h2 _ hin
    refine ⟨fun _ => ?_, fun hh => absurd ⟨_, hin⟩ hh⟩
    rw [hkk, if_neg (by omega)]
    have := ((h.wf.key hk key).fix (k := k) (by rw [List.length_set]; exact hk)).2.1
    rw [List.length_set] at this
    exact this

theorem Same.put {m : Nat} {s : QS} {t : RS} (h : Same m s t) (id key : Int) : (rputR t id key).1 = (putS s id key).1 ∧ Same m (putS s id key).2 (rputR t id key).2 := by
  have hbig := h.ok.wf.big
  have hfew := h.ok.wf.few
  have hl := h.lp
  have key1 : puts s.es s.Pl.length id key ↔ 0 ≤ id ∧ id < (m : Int) ∧ (t.Is.getD id.toNat false = true → key < t.K.getD id.toNat 0) := by
    unfold puts
    rw [h.lp]
    constructor
    · rintro ⟨a, b, c⟩
      refine ⟨a, b, fun hb => c _ ?_⟩
      have := (h.mem id.toNat _ (by omega)).2 ⟨hb, rfl⟩
      rw [Int.toNat_of_nonneg a] at this
      exact this
    · rintro ⟨a, b, c⟩
      refine ⟨a, b, fun k hk => ?_⟩
      have := (h.mem id.toNat k (by omega)).1 (by rw [Int.toNat_of_nonneg a]; exact hk)
      rw [← this.2]
      exact c this.1
  by_cases hp : puts s.es s.Pl.length id key
  · obtain ⟨p1, p2, p3, p4⟩ := putS_yes h.ok hp
    obtain ⟨a, b, c⟩ := key1.1 hp
    have hlen := putR_len h.ok hp
    rw [← putS_es s id key h.ok] at hlen
    have hin : (∃ k, ((id, k) : En) ∈ s.es) ↔ t.Is.getD id.toNat false = true := by
      constructor
      · rintro ⟨k, hk⟩
        exact ((h.mem id.toNat k (by omega)).1 (by rw [Int.toNat_of_nonneg a]; exact hk)).1
      · intro hb
        have := (h.mem id.toNat _ (by omega)).2 ⟨hb, rfl⟩
        rw [Int.toNat_of_nonneg a] at this
        exact ⟨_, this⟩
    have hmem : ∀ (i : Nat) (k : Int), i < m → (((i : Int), k) ∈ (putS s id key).2.es ↔ (t.Is.set id.toNat true).getD i false = true ∧ (t.K.set id.toNat key).getD i 0 = k) := fun i k hi => by
      rw [p4, getD_set (by rw [h.li]; omega), getD_set (by rw [h.lk]; omega)]
      by_cases hii : i = id.toNat
      · rw [if_pos hii, if_pos hii]
        constructor
        · rintro (he | ⟨_, hne⟩)
          · simp only [Prod.mk.injEq] at he
            exact ⟨rfl, he.2.symm⟩
          · exact absurd (show (i : Int) = id by omega) hne
        · rintro ⟨_, rfl⟩
          exact .inl (by rw [show (i : Int) = id by omega])
      · rw [if_neg hii, if_neg hii, ← h.mem i k hi]
        constructor
        · rintro (he | ⟨he, _⟩)
          · simp only [Prod.mk.injEq] at he
            exact absurd he.1 (by omega)
          · exact he
        · intro he
          exact .inr ⟨he, fun hh : (i : Int) = id => by omega⟩
    have hlk := h.lk
    unfold rputR
    rw [hlk, if_pos ⟨a, b⟩]
    by_cases hb : t.Is.getD id.toNat false = true
    · have := c hb
      rw [if_pos hb, if_neg (by omega)]
      refine ⟨p1.symm, p2, by rw [p3]; exact h.lp, by simp only [List.length_set]; exact h.lk, by simp only [List.length_set]; exact h.li, hmem, ?_⟩
      rw [hlen.1 (hin.2 hb)]; exact h.num
    · rw [if_neg hb]
      refine ⟨p1.symm, p2, by rw [p3]; exact h.lp, by simp only [List.length_set]; exact h.lk, by simp only [List.length_set]; exact h.li, hmem, ?_⟩
      rw [hlen.2 (fun hh => hb (hin.1 hh))]
      simp only
      rw [h.num, IntWalk.i64_in _ (by omega)]
      omega
  · rw [putS_no h.ok hp]
    have : rputR t id key = (false, t) := by
      unfold rputR
      rw [h.lk]
      split
      · rename_i hin
        split
        · rename_i hb
          rw [if_pos]
          by_cases hle : t.K.getD id.toNat 0 ≤ key
          · exact hle
          · exact absurd (key1.2 ⟨hin.1, hin.2, fun _ => by omega⟩) hp
        · rename_i hb
          exact absurd (key1.2 ⟨hin.1, hin.2, fun hh => absurd hh hb⟩) hp
      · rfl
    rw [this]
    exact ⟨rfl, h⟩

theorem best_spec {K : List Int} {Is : List Bool} : ∀ (i : Nat), (bestR K Is i < 0 → ∀ j, j < i → Is.getD j false = false) ∧
    (0 ≤ bestR K Is i → (bestR K Is i).toNat < i ∧ Is.getD (bestR K Is i).toNat false = true ∧ ∀ j, j < i → Is.getD j false = true → K.getD (bestR K Is i).toNat 0 < K.getD j 0 ∨ (K.getD (bestR K Is i).toNat 0 = K.getD j 0 ∧ (bestR K Is i).toNat ≤ j))
  | 0 => ⟨fun _ j h => absurd h (Nat.not_lt_zero _), fun h => by unfold bestR at h; omega⟩
  | i + 1 => by
    obtain ⟨h1, h2⟩ := best_spec (K := K) (Is := Is) i
    have hr := bestR_range K Is i
    rw [bestR]
    by_cases hb : Is.getD i false = true
    · rw [if_pos hb]
      by_cases hb0 : bestR K Is i < 0
      · rw [if_pos hb0]
        refine ⟨fun h => by omega, fun _ => ⟨by omega, by rw [Int.toNat_natCast]; exact hb, fun j hj hjb => ?_⟩⟩
        by_cases hji : j = i
        · subst hji; rw [Int.toNat_natCast]; exact .inr ⟨rfl, Nat.le_refl _⟩
        · rw [h1 hb0 j (by omega)] at hjb; cases hjb
      · rw [if_neg hb0]
        obtain ⟨k1, k2, k3⟩ := h2 (by omega)
        by_cases hl : K.getD i 0 < K.getD (bestR K Is i).toNat 0
        · rw [if_pos hl]
          refine ⟨fun h => by omega, fun _ => ⟨by omega, by rw [Int.toNat_natCast]; exact hb, fun j hj hjb => ?_⟩⟩
          rw [Int.toNat_natCast]
          by_cases hji : j = i
          · subst hji; exact .inr ⟨rfl, Nat.le_refl _⟩
          · have := k3 j (by omega) hjb
            omega
        · rw [if_neg hl]
          refine ⟨fun h => by omega, fun _ => ⟨by omega, k2, fun j hj hjb => ?_⟩⟩
          by_cases hji : j = i
          · subst hji; omega
          · exact k3 j (by omega) hjb
    · rw [if_neg hb]
      refine ⟨fun h j hj => ?_, fun h => ?_⟩
      · by_cases hji : j = i
        · subst hji; simpa using hb
        · exact h1 h j (by omega)
      · obtain ⟨k1, k2, k3⟩ := h2 h
        refine ⟨by omega, k2, fun j hj hjb => ?_⟩
        by_cases hji : j = i
        · subst hji; exact absurd hjb hb
        · exact k3 j (by omega) hjb

theorem Same.pop {m : Nat} {s : QS} {t : RS} (h : Same m s t) : (rpopR t).1 = (popS s).1 ∧ Same m (popS s).2 (rpopR t).2 := by
  have hbig := h.ok.wf.big
  have hfew := h.ok.wf.few
  have hlp := h.lp
  obtain ⟨b1, b2⟩ := best_spec (K := t.K) (Is := t.Is) t.K.length
  by_cases hn : s.es.length = 0
  · rw [popS_none hn]
    have hb : bestR t.K t.Is t.K.length < 0 := by
      by_cases hh : bestR t.K t.Is t.K.length < 0
      · exact hh
      · obtain ⟨k1, k2, _⟩ := b2 (by omega)
        have := (h.mem _ _ (by rw [← h.lk]; exact k1)).2 ⟨k2, rfl⟩
        rw [List.length_eq_zero_iff.1 hn] at this
        cases this
    unfold rpopR
    rw [if_pos hb]
    exact ⟨rfl, h⟩
  · obtain ⟨e, p1, p2, p3, p4, p5, p6, p7⟩ := popS_some h.ok hn
    have hr := QS.range h.ok p1
    have hei := (h.mem e.1.toNat e.2 (by omega)).1 (by rw [Int.toNat_of_nonneg hr.1]; exact p1)
    have hb0 : ¬ bestR t.K t.Is t.K.length < 0 := fun hh => by
      have := b1 hh e.1.toNat (by rw [h.lk]; omega)
      rw [hei.1] at this; cases this
    obtain ⟨k1, k2, k3⟩ := b2 (by omega)
    have hbi : ((bestR t.K t.Is t.K.length), t.K.getD (bestR t.K t.Is t.K.length).toNat 0) = e := by
      have hin := (h.mem (bestR t.K t.Is t.K.length).toNat (t.K.getD (bestR t.K t.Is t.K.length).toNat 0) (by rw [← h.lk]; exact k1)).2 ⟨k2, rfl⟩
      rw [Int.toNat_of_nonneg (by omega)] at hin
      have n1 := p2 _ hin
      have n2 := k3 e.1.toNat (by rw [h.lk]; omega) hei.1
      rw [hei.2] at n2
      unfold Lt at n1
      simp only at n1
      have h1 : bestR t.K t.Is t.K.length = e.1 := by omega
      have h2 : t.K.getD (bestR t.K t.Is t.K.length).toNat 0 = e.2 := by rw [h1]; exact hei.2
      rw [h1]
      rw [h1] at h2
      rw [h2]
    have hb1 : bestR t.K t.Is t.K.length = e.1 := by rw [← hbi]
    have hb2 : t.K.getD (bestR t.K t.Is t.K.length).toNat 0 = e.2 := by rw [← hbi]
    unfold rpopR
    rw [if_neg hb0]
    refine ⟨by rw [p3, hb2, hb1], p4, by rw [p5]; exact h.lp, h.lk, by simp only [List.length_set]; exact h.li, fun i k hi => ?_, ?_⟩
    · simp only
      rw [p7, h.mem i k hi, hb1, getD_set (by rw [h.li]; omega)]
      by_cases hii : i = e.1.toNat
      · rw [if_pos hii]
        constructor
        · rintro ⟨⟨_, hk⟩, hne⟩
          exfalso
          apply hne
          rw [hii, hei.2] at hk
          rw [hii, ← hk, Int.toNat_of_nonneg hr.1]
        · rintro ⟨hh, _⟩; cases hh
      · rw [if_neg hii]
        constructor
        · exact fun hh => hh.1
        · intro hh
          refine ⟨hh, fun he => ?_⟩
          have : (i : Int) = e.1 := by rw [← he]
          omega
    · simp only
      rw [h.num, IntWalk.i64_in _ (by omega)]
      omega
theorem Same.new {m : Nat} (hm : m ≤ 2 ^ 30) : Same m ⟨none, List.replicate m 0⟩ ⟨List.replicate m 0, List.replicate m false, 0⟩ := by
  refine ⟨QS.new hm, by simp, by simp, by simp, fun i k hi => ?_, rfl⟩
  simp [QS.es, hi]
end Go.Proofs.Ythocfeccinpbmaa
