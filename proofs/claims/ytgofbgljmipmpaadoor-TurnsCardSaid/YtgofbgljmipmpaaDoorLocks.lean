/- The numbers under which this dump holds sync.Mutex's functions and types, and that it holds them. No condition. -/
import Derived.Test.YtgofbgljmipmpaaDoorProg
import Derived.Conc.RwLib
import Derived.Conc.MuData
import Derived.KernelRfl
namespace Go.Proofs
abbrev Tryd.muLink : Go.Conc.Locks.MuLink := { lock := 20, unlock := 21, ilock := 34, iunlock := 35, lockSlow := 58, unlockSlow := 61, disable := 54, enable := 56, acquire := 57, relMerge := 59, cas32 := 55, add32 := 60, tMutex := 29, tIMutex := 27, tPMutex := 87, tPIMutex := 113, tPI32 := 115, tUP := 117, tNoCopy := 24, tU32 := 25 }
theorem Tryd.muLib : Go.Conc.Locks.MuLib Tryd.prog Tryd.muLink :=
  ⟨Tryd.func20, Tryd.func21, Tryd.func34, Tryd.func35, Tryd.func54, Tryd.func56, Tryd.func57, Tryd.func59, Tryd.func55, Tryd.func60, Tryd.underlying27, Tryd.runUnderlying27, Tryd.sizeOf27, Tryd.isAgg27, Tryd.zeroValue27, Tryd.underlying29, Tryd.runUnderlying29, Tryd.sizeOf29, Tryd.isAgg29, Tryd.zeroValue29, Tryd.underlying87, Tryd.runUnderlying87, Tryd.sizeOf87, Tryd.isAgg87, Tryd.zeroValue87, Tryd.underlying113, Tryd.runUnderlying113, Tryd.sizeOf113, Tryd.isAgg113, Tryd.zeroValue113, Tryd.underlying115, Tryd.runUnderlying115, Tryd.sizeOf115, Tryd.isAgg115, Tryd.zeroValue115, Tryd.underlying117, Tryd.runUnderlying117, Tryd.sizeOf117, Tryd.isAgg117, Tryd.zeroValue117, Tryd.underlying24, Tryd.runUnderlying24, Tryd.sizeOf24, Tryd.isAgg24, Tryd.zeroValue24, Tryd.underlying21, Tryd.runUnderlying21, Tryd.sizeOf21, Tryd.isAgg21, Tryd.zeroValue21, (by kernel_rfl)⟩
end Go.Proofs
