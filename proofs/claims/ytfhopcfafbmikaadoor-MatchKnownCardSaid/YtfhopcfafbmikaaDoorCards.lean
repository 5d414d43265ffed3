/-
  DERIVED. GIVEN WITH THE SEED: THE CARDS: each row of YtfhopcfafbmikaaDoorRows.lean that lists a variable, with what it lists TIED to the program's text (the seventh form; the later family's looks); each row that meets fmt, with fmt's text TOLD by the authors' own Lean function (tested against real Go, not proved from fmt's source: count such statements apart). THE CARD IS WHAT COUNTS. Prove the row's statement (the work); the ties are given (YtfhopcfafbmikaaDoorTie.lean); close each card by the builder's one call (the guide's Derived/Test/ToyasCard.lean, 'card_holds'). Laid BY PROGRAM, IN A SANDBOX (cutbox-door.mjs). By AI agents, Wed Nov 11 2026. No macro, syntax, notation, axiom, sorry.
-/
import Derived.Test.YtfhopcfafbmikaaDoorRows
import GoSem.ClaimSeven
namespace Go.Proofs.YtfhopcfafbmikaaDoor
namespace Rows

/-- THE TIED CARD OF 'milestonelaw5.MatchAll'. -/
def matchAllCard : Claim7 := { stood := { row := matchAllRow, standIns := [], harness := (true, "ee34cdd89c0e411052512ba32e335064020bcdb8f2a00aa2bfc7496cca3cf61a"), looks := false }, kinds := [], alts := [], laidByText := true, laidKinds := [.data], laidTests := true, laidLooks := .later }
def MatchAllCardSaid : Prop := Claim7.holds Tryd.pinned (.plain (OpenSpec.ofChange matchAllSpec)) matchAllCard

/-- THE TIED CARD OF 'milestonelaw5.MatchWords'. -/
def matchWordsCard : Claim7 := { stood := { row := matchWordsRow, standIns := [], harness := (true, "ee34cdd89c0e411052512ba32e335064020bcdb8f2a00aa2bfc7496cca3cf61a"), looks := false }, kinds := [], alts := [], laidByText := true, laidKinds := [.data], laidTests := true, laidLooks := .later }
def MatchWordsCardSaid : Prop := Claim7.holds Tryd.pinned (.plain (OpenSpec.ofChange matchWordsSpec)) matchWordsCard

/-- THE TIED CARD OF 'milestonelaw5.MatchRules'. -/
def matchRulesCard : Claim7 := { stood := { row := matchRulesRow, standIns := [], harness := (true, "ee34cdd89c0e411052512ba32e335064020bcdb8f2a00aa2bfc7496cca3cf61a"), looks := false }, kinds := [], alts := [], laidByText := true, laidKinds := [.data], laidTests := true, laidLooks := .later }
def MatchRulesCardSaid : Prop := Claim7.holds Tryd.pinned (.plain (OpenSpec.ofChange matchRulesSpec)) matchRulesCard

/-- THE TIED CARD OF 'milestonelaw5.MatchTimes'. -/
def matchTimesCard : Claim7 := { stood := { row := matchTimesRow, standIns := [], harness := (true, "ee34cdd89c0e411052512ba32e335064020bcdb8f2a00aa2bfc7496cca3cf61a"), looks := false }, kinds := [], alts := [], laidByText := true, laidKinds := [.data], laidTests := true, laidLooks := .later }
def MatchTimesCardSaid : Prop := Claim7.holds Tryd.pinned (.plain (OpenSpec.ofChange matchTimesSpec)) matchTimesCard

/-- THE TIED CARD OF 'milestonelaw5.MatchKnown'. -/
def matchKnownCard : Claim7 := { stood := { row := matchKnownRow, standIns := [], harness := (true, "ee34cdd89c0e411052512ba32e335064020bcdb8f2a00aa2bfc7496cca3cf61a"), looks := false }, kinds := [], alts := [], laidByText := true, laidKinds := [.data], laidTests := true, laidLooks := .later }
def MatchKnownCardSaid : Prop := Claim7.holds Tryd.pinned (.plain (OpenSpec.ofChange matchKnownSpec)) matchKnownCard

/-- THE TIED CARD OF 'milestonelaw5.MatchNone'. -/
def matchNoneCard : Claim7 := { stood := { row := matchNoneRow, standIns := [], harness := (true, "ee34cdd89c0e411052512ba32e335064020bcdb8f2a00aa2bfc7496cca3cf61a"), looks := false }, kinds := [], alts := [], laidByText := true, laidKinds := [.data], laidTests := true, laidLooks := .later }
def MatchNoneCardSaid : Prop := Claim7.holds Tryd.pinned (.plain (OpenSpec.ofChange matchNoneSpec)) matchNoneCard

/-- THE TIED CARD OF 'milestonelaw5.MatchTurned'. -/
def matchTurnedCard : Claim7 := { stood := { row := matchTurnedRow, standIns := [], harness := (true, "ee34cdd89c0e411052512ba32e335064020bcdb8f2a00aa2bfc7496cca3cf61a"), looks := false }, kinds := [], alts := [], laidByText := true, laidKinds := [.data], laidTests := true, laidLooks := .later }
def MatchTurnedCardSaid : Prop := Claim7.holds Tryd.pinned (.plain (OpenSpec.ofChange matchTurnedSpec)) matchTurnedCard

/-- THE TIED CARD OF 'milestonelaw5.MatchCounts'. -/
def matchCountsCard : Claim7 := { stood := { row := matchCountsRow, standIns := [], harness := (true, "ee34cdd89c0e411052512ba32e335064020bcdb8f2a00aa2bfc7496cca3cf61a"), looks := false }, kinds := [], alts := [], laidByText := true, laidKinds := [.data], laidTests := true, laidLooks := .later }
def MatchCountsCardSaid : Prop := Claim7.holds Tryd.pinned (.plain (OpenSpec.ofChange matchCountsSpec)) matchCountsCard

/-- THE TIED CARD OF 'milestonelaw5.MatchSets'. -/
def matchSetsCard : Claim7 := { stood := { row := matchSetsRow, standIns := [], harness := (true, "ee34cdd89c0e411052512ba32e335064020bcdb8f2a00aa2bfc7496cca3cf61a"), looks := false }, kinds := [], alts := [], laidByText := true, laidKinds := [.data], laidTests := true, laidLooks := .later }
def MatchSetsCardSaid : Prop := Claim7.holds Tryd.pinned (.plain (OpenSpec.ofChange matchSetsSpec)) matchSetsCard

/-- THE SECOND FORM's CARD OF 'milestonelaw5.MatchAll'. -/
def matchAllUptoCard : Claim7 := { stood := { row := matchAllUptoRow, standIns := [], harness := (true, "ee34cdd89c0e411052512ba32e335064020bcdb8f2a00aa2bfc7496cca3cf61a"), looks := false }, kinds := [], alts := [], laidByText := true, laidKinds := [.data], laidTests := true, laidLooks := .later }
def MatchAllUptoCardSaid : Prop := Claim7.holds Tryd.pinned (.plain (OpenSpec.upto matchAllSpec)) matchAllUptoCard

/-- THE SECOND FORM's CARD OF 'milestonelaw5.MatchWords'. -/
def matchWordsUptoCard : Claim7 := { stood := { row := matchWordsUptoRow, standIns := [], harness := (true, "ee34cdd89c0e411052512ba32e335064020bcdb8f2a00aa2bfc7496cca3cf61a"), looks := false }, kinds := [], alts := [], laidByText := true, laidKinds := [.data], laidTests := true, laidLooks := .later }
def MatchWordsUptoCardSaid : Prop := Claim7.holds Tryd.pinned (.plain (OpenSpec.upto matchWordsSpec)) matchWordsUptoCard

/-- THE SECOND FORM's CARD OF 'milestonelaw5.MatchRules'. -/
def matchRulesUptoCard : Claim7 := { stood := { row := matchRulesUptoRow, standIns := [], harness := (true, "ee34cdd89c0e411052512ba32e335064020bcdb8f2a00aa2bfc7496cca3cf61a"), looks := false }, kinds := [], alts := [], laidByText := true, laidKinds := [.data], laidTests := true, laidLooks := .later }
def MatchRulesUptoCardSaid : Prop := Claim7.holds Tryd.pinned (.plain (OpenSpec.upto matchRulesSpec)) matchRulesUptoCard

/-- THE SECOND FORM's CARD OF 'milestonelaw5.MatchTimes'. -/
def matchTimesUptoCard : Claim7 := { stood := { row := matchTimesUptoRow, standIns := [], harness := (true, "ee34cdd89c0e411052512ba32e335064020bcdb8f2a00aa2bfc7496cca3cf61a"), looks := false }, kinds := [], alts := [], laidByText := true, laidKinds := [.data], laidTests := true, laidLooks := .later }
def MatchTimesUptoCardSaid : Prop := Claim7.holds Tryd.pinned (.plain (OpenSpec.upto matchTimesSpec)) matchTimesUptoCard

/-- THE SECOND FORM's CARD OF 'milestonelaw5.MatchKnown'. -/
def matchKnownUptoCard : Claim7 := { stood := { row := matchKnownUptoRow, standIns := [], harness := (true, "ee34cdd89c0e411052512ba32e335064020bcdb8f2a00aa2bfc7496cca3cf61a"), looks := false }, kinds := [], alts := [], laidByText := true, laidKinds := [.data], laidTests := true, laidLooks := .later }
def MatchKnownUptoCardSaid : Prop := Claim7.holds Tryd.pinned (.plain (OpenSpec.upto matchKnownSpec)) matchKnownUptoCard

/-- THE SECOND FORM's CARD OF 'milestonelaw5.MatchNone'. -/
def matchNoneUptoCard : Claim7 := { stood := { row := matchNoneUptoRow, standIns := [], harness := (true, "ee34cdd89c0e411052512ba32e335064020bcdb8f2a00aa2bfc7496cca3cf61a"), looks := false }, kinds := [], alts := [], laidByText := true, laidKinds := [.data], laidTests := true, laidLooks := .later }
def MatchNoneUptoCardSaid : Prop := Claim7.holds Tryd.pinned (.plain (OpenSpec.upto matchNoneSpec)) matchNoneUptoCard

/-- THE SECOND FORM's CARD OF 'milestonelaw5.MatchTurned'. -/
def matchTurnedUptoCard : Claim7 := { stood := { row := matchTurnedUptoRow, standIns := [], harness := (true, "ee34cdd89c0e411052512ba32e335064020bcdb8f2a00aa2bfc7496cca3cf61a"), looks := false }, kinds := [], alts := [], laidByText := true, laidKinds := [.data], laidTests := true, laidLooks := .later }
def MatchTurnedUptoCardSaid : Prop := Claim7.holds Tryd.pinned (.plain (OpenSpec.upto matchTurnedSpec)) matchTurnedUptoCard

/-- THE SECOND FORM's CARD OF 'milestonelaw5.MatchCounts'. -/
def matchCountsUptoCard : Claim7 := { stood := { row := matchCountsUptoRow, standIns := [], harness := (true, "ee34cdd89c0e411052512ba32e335064020bcdb8f2a00aa2bfc7496cca3cf61a"), looks := false }, kinds := [], alts := [], laidByText := true, laidKinds := [.data], laidTests := true, laidLooks := .later }
def MatchCountsUptoCardSaid : Prop := Claim7.holds Tryd.pinned (.plain (OpenSpec.upto matchCountsSpec)) matchCountsUptoCard

/-- THE SECOND FORM's CARD OF 'milestonelaw5.MatchSets'. -/
def matchSetsUptoCard : Claim7 := { stood := { row := matchSetsUptoRow, standIns := [], harness := (true, "ee34cdd89c0e411052512ba32e335064020bcdb8f2a00aa2bfc7496cca3cf61a"), looks := false }, kinds := [], alts := [], laidByText := true, laidKinds := [.data], laidTests := true, laidLooks := .later }
def MatchSetsUptoCardSaid : Prop := Claim7.holds Tryd.pinned (.plain (OpenSpec.upto matchSetsSpec)) matchSetsUptoCard
end Rows
end Go.Proofs.YtfhopcfafbmikaaDoor
