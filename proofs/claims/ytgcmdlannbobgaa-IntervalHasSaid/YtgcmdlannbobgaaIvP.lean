/- The program's package interval: its contracts. -/
import Derived.Test.YtgcmdlannbobgaaIvPA
import Derived.Test.YtgcmdlannbobgaaIvPB
import Derived.Test.YtgcmdlannbobgaaIvPC
import Derived.Test.YtgcmdlannbobgaaIvPM
