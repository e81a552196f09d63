import Derived.Test.YtpgkfccfabnjdaaM02
import Derived.Lib.AppendZeros
import Derived.Lib.Hide
import Derived.Test.YtpgkfccfabnjdaaM07
import Derived.Deep.RegionLaw
