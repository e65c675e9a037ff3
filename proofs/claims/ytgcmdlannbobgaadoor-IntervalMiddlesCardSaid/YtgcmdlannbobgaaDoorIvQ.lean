/- The program's package interval: Width, Mid, Out. -/
import Derived.Test.YtgcmdlannbobgaaDoorIvP
import Derived.Test.YtgcmdlannbobgaaDoorIvPD
import Derived.Test.YtgcmdlannbobgaaDoorIvPE
import Derived.Test.YtgcmdlannbobgaaDoorRefIvC
import Derived.Test.YtgcmdlannbobgaaDoorRefIvD
