/-
  Contract of a skew binomial heap's All: all elements, tree by tree, as a slice of the call's own; nothing that was there has changed. Condition: fewer than 2 to the 28th elements.
-/
import Derived.Test.YtlaohkflnkjamaaGreatDoorSb7
namespace Go.Proofs.YtlaohkflnkjamaaGreatDoor.Hp
open Go.Sort Go.RowKit

end Go.Proofs.YtlaohkflnkjamaaGreatDoor.Hp
