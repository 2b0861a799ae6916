import Derived.Test.YtjkpbpgeedihhaaGreatDoorC29
import Derived.Test.YtjkpbpgeedihhaaGreatDoorC30
import Derived.Test.YtjkpbpgeedihhaaGreatDoorC19
import Derived.Test.YtjkpbpgeedihhaaGreatDoorC09
set_option linter.all false
namespace Go.Proofs.YtjkpbpgeedihhaaGreatDoor
set_option maxRecDepth 100000 in
theorem the_call : TheCall := fun _ _ W _ _ _ _ hv h hw hL => by
  obtain ⟨id, a, cap, ns, rs, rfl, hm, hr, hid, hN, hC, hB, hvals⟩ := open_model hv h hw
  exact models_any id a cap ns rs W hm hr hid (laid_of hL) hN hC hB hvals
/-- THE CARD. -/
theorem models_card : Rows.ModelsCardSaid := card_of the_call
#print axioms models_card
end Go.Proofs.YtjkpbpgeedihhaaGreatDoor
