/- The contracts of package rec as the laws want them: see RecV (what a Store is in memory), RecF, RecG, RecM, RecT. -/
import Derived.Test.YtmfpjnlplimkeaaRecT
import Derived.Test.YtmfpjnlplimkeaaPush
