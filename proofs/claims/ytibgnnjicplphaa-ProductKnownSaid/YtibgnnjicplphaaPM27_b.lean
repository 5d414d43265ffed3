/-
  What is proved: ProductKnown: in this network, by these fourteen expressions, it costs just so. For every argument.
-/
import Derived.Test.YtibgnnjicplphaaPM47_b
import Derived.Test.YtibgnnjicplphaaPM24_b
open Go Go.Am Go.Proofs
namespace Go.Proofs.Ytibgnnjicplphaa
set_option maxRecDepth 100000
noncomputable def SPM_b : Specs := specs [(47, gMemo K47_b), (24, gMemo K24_b)]
theorem specsM_b (B : Bd) : SpecsOk Try.prog [] B SPM_b := specs_ok fun p hp => by
  simp only [List.mem_cons, List.not_mem_nil, or_false] at hp
  rcases hp with rfl | rfl
  · exact ok47_b B
  · exact ok24_b B
noncomputable def D27_b : List Value × List ABlk × Value × List Nat × List ABlk := ([.string ⟨⟨[46, 123, 54, 44, 54, 125, 116, 42]⟩⟩], [], .tuple ⟨[.agg ⟨[.slice (some ⟨131, 0, none⟩) 8 8, .slice (some ⟨132, 0, none⟩) 8 8]⟩, .int .i64 0]⟩, [131, 132], [⟨[.int .i64 1, .int .i64 1, .int .i64 1, .int .i64 1, .int .i64 1, .int .i64 2, .int .i64 2, .int .i64 2, .int .i64 2, .int .i64 2, .int .i64 3, .int .i64 3, .int .i64 3, .int .i64 3, .int .i64 3, .int .i64 4, .int .i64 4, .int .i64 4, .int .i64 4, .int .i64 4, .int .i64 5, .int .i64 5, .int .i64 5, .int .i64 5, .int .i64 5, .int .i64 6, .int .i64 6, .int .i64 6, .int .i64 6, .int .i64 6, .int .i64 7, .int .i64 7, .int .i64 7, .int .i64 7, .int .i64 6, .int .i64 7, .int .i64 7, .int .i64 7, .int .i64 7, .int .i64 7], 61, 5, 0, true⟩, ⟨[.bool false, .bool false, .bool false, .bool false, .bool false, .bool false, .bool true, .bool false], 4, 1, 0, true⟩])
noncomputable def K27_b : Memo := ⟨D27_b.1, D27_b.2.1, D27_b.2.2.1, D27_b.2.2.2.1, D27_b.2.2.2.2⟩
theorem st27_b : memoSt K27_b = true := by kernel_rfl
theorem run27_b : memoRunQ Try.prog SPM_b qts 100000 27 K27_b = some (K27_b.v0, K27_b.news.map some, true) := by kernel_rfl
theorem ok27_b (B : Bd) : SpecOk Try.prog [] B 27 (gMemo K27_b) := SpecOk.memoQ noNumP mixedP K27_b qokS (fun _ => rfl) specsM_b st27_b run27_b
end Go.Proofs.Ytibgnnjicplphaa
