import Derived.Test.YtpgkfccfabnjdaaM08
import Derived.BigQuiet
import Derived.Test.YtpgkfccfabnjdaaM03
import Derived.Test.YtpgkfccfabnjdaaM07
import Derived.Deep.RegionHeld
import Derived.Lib.SliceRun
