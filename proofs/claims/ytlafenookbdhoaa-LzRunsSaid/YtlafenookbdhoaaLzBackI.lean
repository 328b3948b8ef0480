/-
  What the laws on packing stand on.
-/
import Derived.Test.YtlafenookbdhoaaLzPack
import Derived.Test.YtlafenookbdhoaaLzView
