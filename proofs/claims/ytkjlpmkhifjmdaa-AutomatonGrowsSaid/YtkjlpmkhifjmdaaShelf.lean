/- The library's contracts that this seat's texts may name. -/
import Derived.Test.YtkjlpmkhifjmdaaProg
import Derived.Shelf.LaysM
import Derived.Shelf.Strconv.AtoiAll
