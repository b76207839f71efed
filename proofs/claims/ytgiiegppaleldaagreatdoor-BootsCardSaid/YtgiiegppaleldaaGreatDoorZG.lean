import Derived.Test.YtgiiegppaleldaaGreatDoorZF
import Derived.Test.YtgiiegppaleldaaGreatDoorTie
import Derived.Test.YtgiiegppaleldaaGreatDoorCards
import Derived.SevenTiedAt
/- The card of Boots. -/
namespace Go.Proofs.YtgiiegppaleldaaGreatDoor
open Go

theorem boots_card : Rows.BootsCardSaid :=
  Claim7.holds_tied_plain_at .later [] [.data, .data, .data, .handle] true (true, "d05faa771f17b92f3cf5b79ba8d3e9639fa7f3e92012228cafdef88d90d25477") true
    boots_said (fun _ h => by cases h) (by kernel_rfl) (fun _ h => by cases h) boots_row_tie rfl ⟨rfl, rfl⟩ (by kernel_rfl) rfl
    (fun f fn hf hfn => by
      obtain rfl : f = 3 := Option.some.inj ((show Tryz.prog.funcNamed "embassy/embassylaw.Boots" = some 3 by kernel_rfl).symm.trans hf) |>.symm
      obtain rfl : fn = Tryz.f3 := (Option.some.inj (Tryz.func3.symm.trans hfn)).symm
      exact ⟨by kernel_rfl, fun j t ht => by
        rw [Tryz.params3] at ht
        have h3 : t = 22 := by
          rcases j with _ | j
          · simpa using ht.symm
          · simp at ht
        subst h3
        exact (show Tryz.prog.wantsStandIn 22 = false by kernel_rfl)⟩)
    (by kernel_rfl)
#print axioms boots_card
end Go.Proofs.YtgiiegppaleldaaGreatDoor
