/- Strong witnesses below 2 to the 31: the kernel's reckoning, of primes of 4096 to 65535. Nothing of the program here. -/
import Derived.Test.YtolnkgghejhaeaaGreatDoorMComp
namespace Go.Proofs.YtolnkgghejhaeaaGreatDoor.Wp
set_option maxRecDepth 100000

theorem q1 : rng chkq 12 4096 = true := by decide +kernel
theorem q2 : rng chkq 12 8192 = true := by decide +kernel
theorem q3 : rng chkq 12 12288 = true := by decide +kernel
theorem q4 : rng chkq 12 16384 = true := by decide +kernel
theorem q5 : rng chkq 12 20480 = true := by decide +kernel
theorem q6 : rng chkq 12 24576 = true := by decide +kernel
theorem q7 : rng chkq 12 28672 = true := by decide +kernel
theorem q8 : rng chkq 12 32768 = true := by decide +kernel
theorem q9 : rng chkq 12 36864 = true := by decide +kernel
theorem q10 : rng chkq 12 40960 = true := by decide +kernel
theorem q11 : rng chkq 12 45056 = true := by decide +kernel
theorem q12 : rng chkq 12 49152 = true := by decide +kernel
theorem q13 : rng chkq 12 53248 = true := by decide +kernel
theorem q14 : rng chkq 12 57344 = true := by decide +kernel
theorem q15 : rng chkq 12 61440 = true := by decide +kernel

end Go.Proofs.YtolnkgghejhaeaaGreatDoor.Wp
