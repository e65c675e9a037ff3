/- The program's package interval: its contracts. -/
import Derived.Test.YtgcmdlannbobgaaDoorIvPA
import Derived.Test.YtgcmdlannbobgaaDoorIvPB
import Derived.Test.YtgcmdlannbobgaaDoorIvPC
import Derived.Test.YtgcmdlannbobgaaDoorIvPM
