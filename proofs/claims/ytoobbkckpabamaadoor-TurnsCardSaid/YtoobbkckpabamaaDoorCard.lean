/- The law Turns answers true in every run, at every script, the package's three tables tied to the program's text. Conditions: the card's own; the seat was turned with the tool's switch FARWALLS=1 (flags -farwalls), with Unmade beside it: functions that no drawn input entered stand in its dump without bodies, tokens.Next among them, and the proof shows that no run comes to one. -/
import Derived.Test.YtoobbkckpabamaaDoorProofs
namespace Go.Proofs.YtoobbkckpabamaaDoor
open Go
theorem card_holds : Rows.TurnsCardSaid :=
  Claim7.holds_tied_plain_at .later [] [.data, .data, .data] true (true, "82a72a029583a77810feabe1e7d2774b93fc4ae464987840d4fb7ed38a085bb1") false
    over (fun _ h => by cases h) (by kernel_rfl) (fun _ h => by cases h) turns_row_tie rfl ⟨rfl, rfl⟩ (by kernel_rfl) rfl
    (fun f fn hf hfn => by
      obtain rfl : f = 3 := Option.some.inj ((show Tryd.prog.funcNamed "creed/creedlaw.Turns" = some 3 by kernel_rfl).symm.trans hf) |>.symm
      obtain rfl : fn = Tryd.f3 := (Option.some.inj (Tryd.func3.symm.trans hfn)).symm
      exact ⟨by kernel_rfl, fun j t ht => by
        rw [Tryd.params3] at ht
        have hT : t = 22 := by
          rcases j with _ | j
          · simpa using ht.symm
          · simp at ht
        subst hT
        exact (show Tryd.prog.wantsStandIn 22 = false by kernel_rfl)⟩)
    (by kernel_rfl)
#print axioms card_holds
end Go.Proofs.YtoobbkckpabamaaDoor
