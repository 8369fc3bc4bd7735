/- Strong witnesses below 2 to the 31: the kernel's reckoning, of primes of 1000 to 4095. Nothing of the program here. -/
import Derived.Test.YtolnkgghejhaeaaGreatDoorMComp
namespace Go.Proofs.YtolnkgghejhaeaaGreatDoor.Wp
set_option maxRecDepth 100000

theorem q0a : rng chkq 10 0 = true := by decide +kernel
theorem q0b : rng chkq 10 1024 = true := by decide +kernel
theorem q0c : rng chkq 10 2048 = true := by decide +kernel
theorem q0d : rng chkq 10 3072 = true := by decide +kernel
theorem q0 : rng chkq 12 0 = true := rng_two (rng_two q0a q0b rfl) (rng_two q0c q0d rfl) rfl

end Go.Proofs.YtolnkgghejhaeaaGreatDoor.Wp
