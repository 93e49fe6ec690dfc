import Derived.Test.YtfkmajjgkdjncaaGreatDoorProg
import Derived.Lib.Case
import Derived.Lib.Latin
import Derived.Lib.Join
import Derived.Lib.ItoaNum
set_option linter.unusedVariables false
set_option linter.unusedSimpArgs false
