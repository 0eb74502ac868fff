/-
 The program's router, its calls by contract: New, Put, Find, Give, Move, Len, Room, Phase, Owner, Idle; one that isn't there.
-/
import Derived.Test.YtmmegmonmilkcaaGreatDoorRtMove2
import Derived.Test.YtmmegmonmilkcaaGreatDoorRtNew
