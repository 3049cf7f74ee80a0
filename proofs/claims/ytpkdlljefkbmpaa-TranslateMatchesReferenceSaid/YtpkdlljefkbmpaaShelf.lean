/- What the shelf's contracts give. -/
import Derived.Test.YtpkdlljefkbmpaaProg
import Derived.Shelf.LaysM
import Derived.Shelf.Strconv.AtoiAll
