import Derived.Test.YtgiiegppaleldaaGreatDoorZH
import Derived.Test.YtgiiegppaleldaaGreatDoorTie
import Derived.Test.YtgiiegppaleldaaGreatDoorCards
import Derived.SevenTiedAt
/- The card of Holds. -/
namespace Go.Proofs.YtgiiegppaleldaaGreatDoor
open Go

theorem holds_card : Rows.HoldsCardSaid :=
  Claim7.holds_tied_plain_at .later [] [.data, .data, .data, .handle] true (true, "d05faa771f17b92f3cf5b79ba8d3e9639fa7f3e92012228cafdef88d90d25477") true
    holds_said (fun _ h => by cases h) (by kernel_rfl) (fun _ h => by cases h) holds_row_tie rfl ⟨rfl, rfl⟩ (by kernel_rfl) rfl
    (fun f fn hf hfn => by
      obtain rfl : f = 4 := Option.some.inj ((show Tryz.prog.funcNamed "embassy/embassylaw.Holds" = some 4 by kernel_rfl).symm.trans hf) |>.symm
      obtain rfl : fn = Tryz.f4 := (Option.some.inj (Tryz.func4.symm.trans hfn)).symm
      exact ⟨by kernel_rfl, fun j t ht => by
        rw [Tryz.params4] at ht
        have h3 : t = 22 := by
          rcases j with _ | j
          · simpa using ht.symm
          · simp at ht
        subst h3
        exact (show Tryz.prog.wantsStandIn 22 = false by kernel_rfl)⟩)
    (by kernel_rfl)
#print axioms holds_card
end Go.Proofs.YtgiiegppaleldaaGreatDoor
