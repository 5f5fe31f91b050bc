/-
  DERIVED. GIVEN WITH THE SEED: THE CARDS: each row of YtgofbgljmipmpaaDoorRows.lean that lists a variable, with what it lists TIED to the program's text (the seventh form; the later family's looks); each row that meets fmt, with fmt's text TOLD by the authors' own Lean function (tested against real Go, not proved from fmt's source: count such statements apart). THE CARD IS WHAT COUNTS. Prove the row's statement (the work); the ties are given (YtgofbgljmipmpaaDoorTie.lean); close each card by the builder's one call (the guide's Derived/Test/ToyasCard.lean, 'card_holds'). Laid BY PROGRAM, IN A SANDBOX (cutbox-door.mjs). By AI agents, Wed Nov 11 2026. No macro, syntax, notation, axiom, sorry.
-/
import Derived.Test.YtgofbgljmipmpaaDoorRows
import GoSem.ClaimSeven
namespace Go.Proofs.YtgofbgljmipmpaaDoor
namespace Rows

/-- THE TIED CARD OF 'creedlaw.Unmade'. -/
def unmadeCard : Claim7 := { stood := { row := unmadeRow, standIns := [], harness := (true, "73c4fa6c687376f41bd1676d391b65f92c6dd99fb06d8376be4d059e066f9f3a"), looks := false }, kinds := [], alts := [], laidByText := true, laidKinds := [.data, .data, .data], laidTests := true, laidLooks := .later }
def UnmadeCardSaid : Prop := Claim7.holds Tryd.pinned (.plain (OpenSpec.ofChange unmadeSpec)) unmadeCard

/-- THE TIED CARD OF 'creedlaw.Turns'. -/
def turnsCard : Claim7 := { stood := { row := turnsRow, standIns := [], harness := (true, "73c4fa6c687376f41bd1676d391b65f92c6dd99fb06d8376be4d059e066f9f3a"), looks := false }, kinds := [], alts := [], laidByText := true, laidKinds := [.data, .data, .data], laidTests := true, laidLooks := .later }
def TurnsCardSaid : Prop := Claim7.holds Tryd.pinned (.plain (OpenSpec.ofChange turnsSpec)) turnsCard

/-- THE SECOND FORM's CARD OF 'creedlaw.Unmade'. -/
def unmadeUptoCard : Claim7 := { stood := { row := unmadeUptoRow, standIns := [], harness := (true, "73c4fa6c687376f41bd1676d391b65f92c6dd99fb06d8376be4d059e066f9f3a"), looks := false }, kinds := [], alts := [], laidByText := true, laidKinds := [.data, .data, .data], laidTests := true, laidLooks := .later }
def UnmadeUptoCardSaid : Prop := Claim7.holds Tryd.pinned (.plain (OpenSpec.upto unmadeSpec)) unmadeUptoCard

/-- THE SECOND FORM's CARD OF 'creedlaw.Turns'. -/
def turnsUptoCard : Claim7 := { stood := { row := turnsUptoRow, standIns := [], harness := (true, "73c4fa6c687376f41bd1676d391b65f92c6dd99fb06d8376be4d059e066f9f3a"), looks := false }, kinds := [], alts := [], laidByText := true, laidKinds := [.data, .data, .data], laidTests := true, laidLooks := .later }
def TurnsUptoCardSaid : Prop := Claim7.holds Tryd.pinned (.plain (OpenSpec.upto turnsSpec)) turnsUptoCard
end Rows
end Go.Proofs.YtgofbgljmipmpaaDoor
