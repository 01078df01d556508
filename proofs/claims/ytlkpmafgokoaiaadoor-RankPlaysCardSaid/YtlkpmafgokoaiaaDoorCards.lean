/-
  DERIVED. GIVEN WITH THE SEED: THE CARDS: each row of YtlkpmafgokoaiaaDoorRows.lean that lists a variable, with what it lists TIED to the program's text (the seventh form; the later family's looks); each row that meets fmt, with fmt's text TOLD by the authors' own Lean function (tested against real Go, not proved from fmt's source: count such statements apart). THE CARD IS WHAT COUNTS. Prove the row's statement (the work); the ties are given (YtlkpmafgokoaiaaDoorTie.lean); close each card by the builder's one call (the guide's Derived/Test/ToyasCard.lean, 'card_holds'). Laid BY PROGRAM, IN A SANDBOX (cutbox-door.mjs). By AI agents, Wed Nov 11 2026. No macro, syntax, notation, axiom, sorry.
-/
import Derived.Test.YtlkpmafgokoaiaaDoorRows
import GoSem.ClaimSeven
namespace Go.Proofs.YtlkpmafgokoaiaaDoor
namespace Rows

/-- THE TIED CARD OF 'slagheaplaw05.RankPlays'. -/
def rankPlaysCard : Claim7 := { stood := { row := rankPlaysRow, standIns := [], harness := (true, "8c68d138079478f1a35e81102ed0ab60fc054fdb626b7ce1a4631019dc411379"), looks := false }, kinds := [], alts := [], laidByText := true, laidKinds := [.data, .data, .data], laidTests := true, laidLooks := .later }
def RankPlaysCardSaid : Prop := Claim7.holds Tryd.pinned (.plain (OpenSpec.ofChange rankPlaysSpec)) rankPlaysCard

/-- THE TIED CARD OF 'slagheaplaw05.RankRight'. -/
def rankRightCard : Claim7 := { stood := { row := rankRightRow, standIns := [], harness := (true, "8c68d138079478f1a35e81102ed0ab60fc054fdb626b7ce1a4631019dc411379"), looks := false }, kinds := [], alts := [], laidByText := true, laidKinds := [.data, .data, .data], laidTests := true, laidLooks := .later }
def RankRightCardSaid : Prop := Claim7.holds Tryd.pinned (.plain (OpenSpec.ofChange rankRightSpec)) rankRightCard

/-- THE TIED CARD OF 'slagheaplaw05.RankNone'. -/
def rankNoneCard : Claim7 := { stood := { row := rankNoneRow, standIns := [], harness := (true, "8c68d138079478f1a35e81102ed0ab60fc054fdb626b7ce1a4631019dc411379"), looks := false }, kinds := [], alts := [], laidByText := true, laidKinds := [.data, .data, .data], laidTests := true, laidLooks := .later }
def RankNoneCardSaid : Prop := Claim7.holds Tryd.pinned (.plain (OpenSpec.ofChange rankNoneSpec)) rankNoneCard

/-- THE TIED CARD OF 'slagheaplaw05.RankStays'. -/
def rankStaysCard : Claim7 := { stood := { row := rankStaysRow, standIns := [], harness := (true, "8c68d138079478f1a35e81102ed0ab60fc054fdb626b7ce1a4631019dc411379"), looks := false }, kinds := [], alts := [], laidByText := true, laidKinds := [.data, .data, .data], laidTests := true, laidLooks := .later }
def RankStaysCardSaid : Prop := Claim7.holds Tryd.pinned (.plain (OpenSpec.ofChange rankStaysSpec)) rankStaysCard

/-- THE TIED CARD OF 'slagheaplaw05.RankOrder'. -/
def rankOrderCard : Claim7 := { stood := { row := rankOrderRow, standIns := [], harness := (true, "8c68d138079478f1a35e81102ed0ab60fc054fdb626b7ce1a4631019dc411379"), looks := false }, kinds := [], alts := [], laidByText := true, laidKinds := [.data, .data, .data], laidTests := true, laidLooks := .later }
def RankOrderCardSaid : Prop := Claim7.holds Tryd.pinned (.plain (OpenSpec.ofChange rankOrderSpec)) rankOrderCard

/-- THE SECOND FORM's CARD OF 'slagheaplaw05.RankPlays'. -/
def rankPlaysUptoCard : Claim7 := { stood := { row := rankPlaysUptoRow, standIns := [], harness := (true, "8c68d138079478f1a35e81102ed0ab60fc054fdb626b7ce1a4631019dc411379"), looks := false }, kinds := [], alts := [], laidByText := true, laidKinds := [.data, .data, .data], laidTests := true, laidLooks := .later }
def RankPlaysUptoCardSaid : Prop := Claim7.holds Tryd.pinned (.plain (OpenSpec.upto rankPlaysSpec)) rankPlaysUptoCard

/-- THE SECOND FORM's CARD OF 'slagheaplaw05.RankRight'. -/
def rankRightUptoCard : Claim7 := { stood := { row := rankRightUptoRow, standIns := [], harness := (true, "8c68d138079478f1a35e81102ed0ab60fc054fdb626b7ce1a4631019dc411379"), looks := false }, kinds := [], alts := [], laidByText := true, laidKinds := [.data, .data, .data], laidTests := true, laidLooks := .later }
def RankRightUptoCardSaid : Prop := Claim7.holds Tryd.pinned (.plain (OpenSpec.upto rankRightSpec)) rankRightUptoCard

/-- THE SECOND FORM's CARD OF 'slagheaplaw05.RankNone'. -/
def rankNoneUptoCard : Claim7 := { stood := { row := rankNoneUptoRow, standIns := [], harness := (true, "8c68d138079478f1a35e81102ed0ab60fc054fdb626b7ce1a4631019dc411379"), looks := false }, kinds := [], alts := [], laidByText := true, laidKinds := [.data, .data, .data], laidTests := true, laidLooks := .later }
def RankNoneUptoCardSaid : Prop := Claim7.holds Tryd.pinned (.plain (OpenSpec.upto rankNoneSpec)) rankNoneUptoCard

/-- THE SECOND FORM's CARD OF 'slagheaplaw05.RankStays'. -/
def rankStaysUptoCard : Claim7 := { stood := { row := rankStaysUptoRow, standIns := [], harness := (true, "8c68d138079478f1a35e81102ed0ab60fc054fdb626b7ce1a4631019dc411379"), looks := false }, kinds := [], alts := [], laidByText := true, laidKinds := [.data, .data, .data], laidTests := true, laidLooks := .later }
def RankStaysUptoCardSaid : Prop := Claim7.holds Tryd.pinned (.plain (OpenSpec.upto rankStaysSpec)) rankStaysUptoCard

/-- THE SECOND FORM's CARD OF 'slagheaplaw05.RankOrder'. -/
def rankOrderUptoCard : Claim7 := { stood := { row := rankOrderUptoRow, standIns := [], harness := (true, "8c68d138079478f1a35e81102ed0ab60fc054fdb626b7ce1a4631019dc411379"), looks := false }, kinds := [], alts := [], laidByText := true, laidKinds := [.data, .data, .data], laidTests := true, laidLooks := .later }
def RankOrderUptoCardSaid : Prop := Claim7.holds Tryd.pinned (.plain (OpenSpec.upto rankOrderSpec)) rankOrderUptoCard
end Rows
end Go.Proofs.YtlkpmafgokoaiaaDoor
