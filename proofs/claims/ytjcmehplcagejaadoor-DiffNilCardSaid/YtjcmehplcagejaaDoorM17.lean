import Derived.Test.YtjcmehplcagejaaDoorM01
import Derived.ShutString
import Derived.ChangeOld
