/- The same, under one more name. -/
import Derived.Test.YtpfbiijcmmkjlaaGreatDoorShelf
