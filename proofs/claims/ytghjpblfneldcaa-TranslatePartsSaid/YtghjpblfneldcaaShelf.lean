/- The shelf's contracts that this seat's texts use. -/
import Derived.Test.YtghjpblfneldcaaProg
import Derived.Shelf.LaysM
import Derived.Shelf.Strconv.AtoiAll
