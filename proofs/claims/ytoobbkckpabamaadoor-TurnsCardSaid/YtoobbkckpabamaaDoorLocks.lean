/- The numbers under which this dump holds sync.Mutex's functions and types, and that it holds them. No condition. -/
import Derived.Test.YtoobbkckpabamaaDoorProg
import Derived.Conc.RwLib
import Derived.Conc.MuData
import Derived.KernelRfl
namespace Go.Proofs
abbrev Tryd.muLink : Go.Conc.Locks.MuLink := { lock := 21, unlock := 22, ilock := 40, iunlock := 41, lockSlow := 58, unlockSlow := 61, disable := 54, enable := 56, acquire := 57, relMerge := 59, cas32 := 55, add32 := 60, tMutex := 33, tIMutex := 31, tPMutex := 95, tPIMutex := 113, tPI32 := 115, tUP := 117, tNoCopy := 28, tU32 := 29 }
theorem Tryd.muLib : Go.Conc.Locks.MuLib Tryd.prog Tryd.muLink :=
  ⟨Tryd.func21, Tryd.func22, Tryd.func40, Tryd.func41, Tryd.func54, Tryd.func56, Tryd.func57, Tryd.func59, Tryd.func55, Tryd.func60, Tryd.underlying31, Tryd.runUnderlying31, Tryd.sizeOf31, Tryd.isAgg31, Tryd.zeroValue31, Tryd.underlying33, Tryd.runUnderlying33, Tryd.sizeOf33, Tryd.isAgg33, Tryd.zeroValue33, Tryd.underlying95, Tryd.runUnderlying95, Tryd.sizeOf95, Tryd.isAgg95, Tryd.zeroValue95, Tryd.underlying113, Tryd.runUnderlying113, Tryd.sizeOf113, Tryd.isAgg113, Tryd.zeroValue113, Tryd.underlying115, Tryd.runUnderlying115, Tryd.sizeOf115, Tryd.isAgg115, Tryd.zeroValue115, Tryd.underlying117, Tryd.runUnderlying117, Tryd.sizeOf117, Tryd.isAgg117, Tryd.zeroValue117, Tryd.underlying28, Tryd.runUnderlying28, Tryd.sizeOf28, Tryd.isAgg28, Tryd.zeroValue28, Tryd.underlying21, Tryd.runUnderlying21, Tryd.sizeOf21, Tryd.isAgg21, Tryd.zeroValue21, (by kernel_rfl)⟩
end Go.Proofs
