/- Strong witnesses below 2 to the 31: the kernel's reckoning, of primes below 1000. Nothing of the program here. -/
import Derived.Test.YtolnkgghejhaeaaGreatDoorMComp
namespace Go.Proofs.YtolnkgghejhaeaaGreatDoor.Wp
set_option maxRecDepth 100000

theorem low_ok : ∀ pl ∈ low, okP pl = true := by decide +kernel
def lowIn (d : Nat) : Bool := cond (Nat.ble 11 d) (cond (Nat.blt d 1000) (cond (smallDiv d) true (low.any fun pl => Nat.beq pl.1 d)) true) true
theorem low_all : rng lowIn 10 0 = true := by decide +kernel
theorem low_len : low.length = 164 := by decide +kernel
theorem top0 : rng (topAt low) 5 0 = true := by decide +kernel
theorem top1 : rng (topAt low) 5 32 = true := by decide +kernel
theorem top2 : rng (topAt low) 5 64 = true := by decide +kernel
theorem top3 : rng (topAt low) 5 96 = true := by decide +kernel
theorem top4 : rng (topAt low) 5 128 = true := by decide +kernel
theorem top5 : rng (topAt low) 5 160 = true := by decide +kernel

end Go.Proofs.YtolnkgghejhaeaaGreatDoor.Wp
