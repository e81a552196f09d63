import Derived.Test.YtpgkfccfabnjdaaM09
import Derived.Test.YtpgkfccfabnjdaaM07
import Derived.Test.YtpgkfccfabnjdaaM08
import Derived.Deep.RegionHeld
import Derived.Lib.SliceRun
