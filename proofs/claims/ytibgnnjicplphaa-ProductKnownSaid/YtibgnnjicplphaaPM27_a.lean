/-
  What is proved: ProductKnown: in this network, by these fourteen expressions, it costs just so. For every argument.
-/
import Derived.Test.YtibgnnjicplphaaPM47_a
import Derived.Test.YtibgnnjicplphaaPM24_a
open Go Go.Am Go.Proofs
namespace Go.Proofs.Ytibgnnjicplphaa
set_option maxRecDepth 100000
noncomputable def SPM_a : Specs := specs [(47, gMemo K47_a), (24, gMemo K24_a)]
theorem specsM_a (B : Bd) : SpecsOk Try.prog [] B SPM_a := specs_ok fun p hp => by
  simp only [List.mem_cons, List.not_mem_nil, or_false] at hp
  rcases hp with rfl | rfl
  · exact ok47_a B
  · exact ok24_a B
noncomputable def D27_a : List Value × List ABlk × Value × List Nat × List ABlk := ([.string ⟨⟨[119, 119, 98, 119, 119, 116]⟩⟩], [], .tuple ⟨[.agg ⟨[.slice (some ⟨104, 0, none⟩) 8 8, .slice (some ⟨105, 0, none⟩) 8 8]⟩, .int .i64 0]⟩, [104, 105], [⟨[.int .i64 1, .int .i64 2, .int .i64 2, .int .i64 2, .int .i64 2, .int .i64 3, .int .i64 2, .int .i64 2, .int .i64 2, .int .i64 2, .int .i64 2, .int .i64 2, .int .i64 2, .int .i64 2, .int .i64 2, .int .i64 2, .int .i64 4, .int .i64 2, .int .i64 2, .int .i64 2, .int .i64 5, .int .i64 2, .int .i64 2, .int .i64 2, .int .i64 2, .int .i64 6, .int .i64 2, .int .i64 2, .int .i64 2, .int .i64 2, .int .i64 2, .int .i64 2, .int .i64 2, .int .i64 2, .int .i64 7, .int .i64 2, .int .i64 2, .int .i64 2, .int .i64 2, .int .i64 2], 61, 5, 0, true⟩, ⟨[.bool false, .bool false, .bool false, .bool false, .bool false, .bool false, .bool false, .bool true], 4, 1, 0, true⟩])
noncomputable def K27_a : Memo := ⟨D27_a.1, D27_a.2.1, D27_a.2.2.1, D27_a.2.2.2.1, D27_a.2.2.2.2⟩
theorem st27_a : memoSt K27_a = true := by kernel_rfl
theorem run27_a : memoRunQ Try.prog SPM_a qts 100000 27 K27_a = some (K27_a.v0, K27_a.news.map some, true) := by kernel_rfl
theorem ok27_a (B : Bd) : SpecOk Try.prog [] B 27 (gMemo K27_a) := SpecOk.memoQ noNumP mixedP K27_a qokS (fun _ => rfl) specsM_a st27_a run27_a
end Go.Proofs.Ytibgnnjicplphaa
