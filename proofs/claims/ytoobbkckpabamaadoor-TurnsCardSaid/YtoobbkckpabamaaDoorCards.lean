/-
  DERIVED. GIVEN WITH THE SEED: THE CARDS: each row of YtoobbkckpabamaaDoorRows.lean that lists a variable, with what it lists TIED to the program's text (the seventh form; the later family's looks); each row that meets fmt, with fmt's text TOLD by the authors' own Lean function (tested against real Go, not proved from fmt's source: count such statements apart). THE CARD IS WHAT COUNTS. Prove the row's statement (the work); the ties are given (YtoobbkckpabamaaDoorTie.lean); close each card by the builder's one call (the guide's Derived/Test/ToyasCard.lean, 'card_holds'). Laid BY PROGRAM, IN A SANDBOX (cutbox-door.mjs). By AI agents, Wed Nov 11 2026. No macro, syntax, notation, axiom, sorry.
-/
import Derived.Test.YtoobbkckpabamaaDoorRows
import GoSem.ClaimSeven
namespace Go.Proofs.YtoobbkckpabamaaDoor
namespace Rows

/-- THE TIED CARD OF 'creedlaw.Turns'. -/
def turnsCard : Claim7 := { stood := { row := turnsRow, standIns := [], harness := (true, "82a72a029583a77810feabe1e7d2774b93fc4ae464987840d4fb7ed38a085bb1"), looks := false }, kinds := [], alts := [], laidByText := true, laidKinds := [.data, .data, .data], laidTests := true, laidLooks := .later }
def TurnsCardSaid : Prop := Claim7.holds Tryd.pinned (.plain (OpenSpec.ofChange turnsSpec)) turnsCard

/-- THE TIED CARD OF 'creedlaw.Unmade'. -/
def unmadeCard : Claim7 := { stood := { row := unmadeRow, standIns := [], harness := (true, "82a72a029583a77810feabe1e7d2774b93fc4ae464987840d4fb7ed38a085bb1"), looks := false }, kinds := [], alts := [], laidByText := true, laidKinds := [.data, .data, .data], laidTests := true, laidLooks := .later }
def UnmadeCardSaid : Prop := Claim7.holds Tryd.pinned (.plain (OpenSpec.ofChange unmadeSpec)) unmadeCard

/-- THE SECOND FORM's CARD OF 'creedlaw.Turns'. -/
def turnsUptoCard : Claim7 := { stood := { row := turnsUptoRow, standIns := [], harness := (true, "82a72a029583a77810feabe1e7d2774b93fc4ae464987840d4fb7ed38a085bb1"), looks := false }, kinds := [], alts := [], laidByText := true, laidKinds := [.data, .data, .data], laidTests := true, laidLooks := .later }
def TurnsUptoCardSaid : Prop := Claim7.holds Tryd.pinned (.plain (OpenSpec.upto turnsSpec)) turnsUptoCard

/-- THE SECOND FORM's CARD OF 'creedlaw.Unmade'. -/
def unmadeUptoCard : Claim7 := { stood := { row := unmadeUptoRow, standIns := [], harness := (true, "82a72a029583a77810feabe1e7d2774b93fc4ae464987840d4fb7ed38a085bb1"), looks := false }, kinds := [], alts := [], laidByText := true, laidKinds := [.data, .data, .data], laidTests := true, laidLooks := .later }
def UnmadeUptoCardSaid : Prop := Claim7.holds Tryd.pinned (.plain (OpenSpec.upto unmadeSpec)) unmadeUptoCard
end Rows
end Go.Proofs.YtoobbkckpabamaaDoor
