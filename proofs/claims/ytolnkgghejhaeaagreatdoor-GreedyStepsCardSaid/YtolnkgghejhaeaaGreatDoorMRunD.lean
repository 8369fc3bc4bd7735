/- Strong witnesses below 2 to the 31: the kernel's reckoning, of primes above 65535. Nothing of the program here. -/
import Derived.Test.YtolnkgghejhaeaaGreatDoorMComp
namespace Go.Proofs.YtolnkgghejhaeaaGreatDoor.Wp
set_option maxRecDepth 100000

theorem far_ok : ∀ q ∈ far, chkL q (findL q) = true := by decide +kernel
theorem m0 : rng (chkm great) 12 0 = true := by decide +kernel
theorem m1 : rng (chkm great) 12 4096 = true := by decide +kernel
theorem m2 : rng (chkm great) 12 8192 = true := by decide +kernel
theorem m3 : rng (chkm great) 12 12288 = true := by decide +kernel
theorem m4 : rng (chkm great) 12 16384 = true := by decide +kernel
theorem m5 : rng (chkm great) 12 20480 = true := by decide +kernel
theorem m6 : rng (chkm great) 12 24576 = true := by decide +kernel
theorem m7 : rng (chkm great) 12 28672 = true := by decide +kernel

end Go.Proofs.YtolnkgghejhaeaaGreatDoor.Wp
