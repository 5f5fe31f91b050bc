/- The law Turns answers true in every run, at every script, the package's three tables tied to the program's text. Conditions: the card's own; the seat was turned with the tool's switch FARWALLS=1 (flags -farwalls), with Unmade beside it: functions that no drawn input entered stand in its dump without bodies, tokens.Next among them, and the proof shows that no run comes to one. -/
import Derived.Test.YtgofbgljmipmpaaDoorProofs
namespace Go.Proofs.YtgofbgljmipmpaaDoor
open Go
theorem card_holds : Rows.TurnsCardSaid :=
  Claim7.holds_tied_plain_at .later [] [.data, .data, .data] true (true, "73c4fa6c687376f41bd1676d391b65f92c6dd99fb06d8376be4d059e066f9f3a") false
    over (fun _ h => by cases h) (by kernel_rfl) (fun _ h => by cases h) turns_row_tie rfl ⟨rfl, rfl⟩ (by kernel_rfl) rfl
    (fun f fn hf hfn => by
      obtain rfl : f = 4 := Option.some.inj ((show Tryd.prog.funcNamed "creed/creedlaw.Turns" = some 4 by kernel_rfl).symm.trans hf) |>.symm
      obtain rfl : fn = Tryd.f4 := (Option.some.inj (Tryd.func4.symm.trans hfn)).symm
      exact ⟨by kernel_rfl, fun j t ht => by
        rw [Tryd.params4] at ht
        have h45 : t = 45 := by
          rcases j with _ | j
          · simpa using ht.symm
          · simp at ht
        subst h45
        exact (show Tryd.prog.wantsStandIn 45 = false by kernel_rfl)⟩)
    (by kernel_rfl)
#print axioms card_holds
end Go.Proofs.YtgofbgljmipmpaaDoor
