/- The law Unmade answers true in every run, the package's three tables tied to the program's text. Conditions: the card's own; the seat was turned with the tool's switch FARWALLS=1 (flags -farwalls): functions that no drawn input entered stand in its dump without bodies, tokens.Next among them, and the proof shows that no run comes to one. -/
import Derived.Test.YtfcpgnnhekbaeaaDoorProofs
namespace Go.Proofs.YtfcpgnnhekbaeaaDoor
open Go
theorem card_holds : Rows.UnmadeCardSaid :=
  Claim7.holds_tied_plain_at .later [] [.data, .data, .data] true (true, "5236affab680a103fb4283f43a2a42c9084347f27aad5b7c6270de17d1c5bd23") false
    over (fun _ h => by cases h) (by kernel_rfl) (fun _ h => by cases h) unmade_row_tie rfl ⟨rfl, rfl⟩ (by kernel_rfl) rfl
    (fun f fn hf hfn => by
      obtain rfl : f = 3 := Option.some.inj ((show Tryd.prog.funcNamed "creed/creedlaw.Unmade" = some 3 by kernel_rfl).symm.trans hf) |>.symm
      obtain rfl : fn = Tryd.f3 := (Option.some.inj (Tryd.func3.symm.trans hfn)).symm
      exact ⟨by kernel_rfl, fun j t ht => by
        rw [Tryd.params3] at ht
        simp at ht⟩)
    (by kernel_rfl)
#print axioms card_holds
end Go.Proofs.YtfcpgnnhekbaeaaDoor
