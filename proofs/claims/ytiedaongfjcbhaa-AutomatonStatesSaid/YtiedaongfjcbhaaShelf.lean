/- What the shelf says of lists and tables: imported whole. -/
import Derived.Test.YtiedaongfjcbhaaProg
import Derived.Shelf.LaysM
import Derived.Shelf.Strconv.AtoiAll
