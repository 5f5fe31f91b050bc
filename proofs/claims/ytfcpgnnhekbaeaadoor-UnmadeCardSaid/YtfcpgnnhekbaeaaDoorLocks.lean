/- The numbers under which this dump holds sync.Mutex's functions and types, and that it holds them. No condition. -/
import Derived.Test.YtfcpgnnhekbaeaaDoorProg
import Derived.Conc.RwLib
import Derived.Conc.MuData
import Derived.KernelRfl
namespace Go.Proofs
abbrev Tryd.muLink : Go.Conc.Locks.MuLink := { lock := 18, unlock := 19, ilock := 31, iunlock := 32, lockSlow := 45, unlockSlow := 48, disable := 41, enable := 43, acquire := 44, relMerge := 46, cas32 := 42, add32 := 47, tMutex := 29, tIMutex := 27, tPMutex := 80, tPIMutex := 95, tPI32 := 97, tUP := 99, tNoCopy := 24, tU32 := 25 }
theorem Tryd.muLib : Go.Conc.Locks.MuLib Tryd.prog Tryd.muLink :=
  ⟨Tryd.func18, Tryd.func19, Tryd.func31, Tryd.func32, Tryd.func41, Tryd.func43, Tryd.func44, Tryd.func46, Tryd.func42, Tryd.func47, Tryd.underlying27, Tryd.runUnderlying27, Tryd.sizeOf27, Tryd.isAgg27, Tryd.zeroValue27, Tryd.underlying29, Tryd.runUnderlying29, Tryd.sizeOf29, Tryd.isAgg29, Tryd.zeroValue29, Tryd.underlying80, Tryd.runUnderlying80, Tryd.sizeOf80, Tryd.isAgg80, Tryd.zeroValue80, Tryd.underlying95, Tryd.runUnderlying95, Tryd.sizeOf95, Tryd.isAgg95, Tryd.zeroValue95, Tryd.underlying97, Tryd.runUnderlying97, Tryd.sizeOf97, Tryd.isAgg97, Tryd.zeroValue97, Tryd.underlying99, Tryd.runUnderlying99, Tryd.sizeOf99, Tryd.isAgg99, Tryd.zeroValue99, Tryd.underlying24, Tryd.runUnderlying24, Tryd.sizeOf24, Tryd.isAgg24, Tryd.zeroValue24, Tryd.underlying21, Tryd.runUnderlying21, Tryd.sizeOf21, Tryd.isAgg21, Tryd.zeroValue21, (by kernel_rfl)⟩
end Go.Proofs
