/-
  NARROWER THAN 'FOR EVERY INPUT', by the rows' own cells (each row's printed sentence says how): Turns: loops, laid · Unmade: laid.
  DERIVED. THE GIVEN ROWS OF THIS SEAT. 2 by the template 'for every input the law returns true; each argument reads behind the call as it read before'; 0 by the template 'total and deterministic' (their statements: YtoobbkckpabamaaDoorTotals.lean).
  GIVEN WITH THE SEED: the statements are not yours to turn. If you find one false, say at which input.
  Laid BY PROGRAM, IN A SANDBOX (cutbox-rows.mjs): the forced cells as the released guide's own fill.sh prints them over the translation 37c7706f1019f054… (all of the seat's roots in one cut). By AI agents, Wed Nov 11 2026. No macro, syntax, notation, axiom, sorry.
-/
import Derived.Test.YtoobbkckpabamaaDoorChecked
import GoSem.Claim
import GoSem.ClaimJoined
import GoSem.ClaimMapViews
import Derived.JoinedTies
import Derived.KernelRfl
namespace Go.Proofs.YtoobbkckpabamaaDoor
/- THE CELL 'sum', in the pinned program and in every row, IS THE sha256 OF THE DUMP (.gsa) THAT YtoobbkckpabamaaDoorProg.lean LOADS. Nothing in Lean hashes anything: it is a label: what it is worth is what the hold of that sum in a sandbox is worth. -/
noncomputable def Tryd.pinned : Pinned := { name := "ytoobbkckpabamaadoor", sum := "37c7706f1019f054092f6d42ff01d82481defcc00e7985ce234e9d01804a5c6a", checked := Tryd.checked }
namespace Rows
def none {H : Type} : Left H := { results := [], args := [] }

/- WHAT THE LISTED PACKAGE-LEVEL VARIABLES READ AS WHEN THE CALL BEGINS. Each datum BY PROGRAM (the guide's laid-datum.mjs) off the statement by which the dump's own 'gosem.cut.vars' lays the variable. In a bare row this is a premise. The card (YtoobbkckpabamaaDoorCards.lean) ties it to the program's text. -/
def laid_creed_signs_sorts {H : Type} : DataW H := .agg [.lit (.int .u8 0), .lit (.int .u8 0), .lit (.int .u8 0), .lit (.int .u8 0), .lit (.int .u8 0), .lit (.int .u8 0), .lit (.int .u8 0), .lit (.int .u8 0), .lit (.int .u8 0), .lit (.int .u8 2), .lit (.int .u8 3), .lit (.int .u8 0), .lit (.int .u8 0), .lit (.int .u8 0), .lit (.int .u8 0), .lit (.int .u8 0), .lit (.int .u8 0), .lit (.int .u8 0), .lit (.int .u8 0), .lit (.int .u8 0), .lit (.int .u8 0), .lit (.int .u8 0), .lit (.int .u8 0), .lit (.int .u8 0), .lit (.int .u8 0), .lit (.int .u8 0), .lit (.int .u8 0), .lit (.int .u8 0), .lit (.int .u8 0), .lit (.int .u8 0), .lit (.int .u8 0), .lit (.int .u8 0), .lit (.int .u8 2), .lit (.int .u8 10), .lit (.int .u8 1), .lit (.int .u8 9), .lit (.int .u8 9), .lit (.int .u8 4), .lit (.int .u8 9), .lit (.int .u8 5), .lit (.int .u8 11), .lit (.int .u8 11), .lit (.int .u8 9), .lit (.int .u8 9), .lit (.int .u8 11), .lit (.int .u8 9), .lit (.int .u8 9), .lit (.int .u8 9), .lit (.int .u8 8), .lit (.int .u8 8), .lit (.int .u8 8), .lit (.int .u8 8), .lit (.int .u8 8), .lit (.int .u8 8), .lit (.int .u8 8), .lit (.int .u8 8), .lit (.int .u8 8), .lit (.int .u8 8), .lit (.int .u8 9), .lit (.int .u8 10), .lit (.int .u8 9), .lit (.int .u8 9), .lit (.int .u8 9), .lit (.int .u8 9), .lit (.int .u8 9), .lit (.int .u8 7), .lit (.int .u8 7), .lit (.int .u8 7), .lit (.int .u8 7), .lit (.int .u8 7), .lit (.int .u8 7), .lit (.int .u8 7), .lit (.int .u8 7), .lit (.int .u8 7), .lit (.int .u8 7), .lit (.int .u8 7), .lit (.int .u8 7), .lit (.int .u8 7), .lit (.int .u8 7), .lit (.int .u8 7), .lit (.int .u8 7), .lit (.int .u8 7), .lit (.int .u8 7), .lit (.int .u8 7), .lit (.int .u8 7), .lit (.int .u8 7), .lit (.int .u8 7), .lit (.int .u8 7), .lit (.int .u8 7), .lit (.int .u8 7), .lit (.int .u8 7), .lit (.int .u8 11), .lit (.int .u8 9), .lit (.int .u8 11), .lit (.int .u8 9), .lit (.int .u8 7), .lit (.int .u8 1), .lit (.int .u8 6), .lit (.int .u8 6), .lit (.int .u8 6), .lit (.int .u8 6), .lit (.int .u8 6), .lit (.int .u8 6), .lit (.int .u8 6), .lit (.int .u8 6), .lit (.int .u8 6), .lit (.int .u8 6), .lit (.int .u8 6), .lit (.int .u8 6), .lit (.int .u8 6), .lit (.int .u8 6), .lit (.int .u8 6), .lit (.int .u8 6), .lit (.int .u8 6), .lit (.int .u8 6), .lit (.int .u8 6), .lit (.int .u8 6), .lit (.int .u8 6), .lit (.int .u8 6), .lit (.int .u8 6), .lit (.int .u8 6), .lit (.int .u8 6), .lit (.int .u8 6), .lit (.int .u8 11), .lit (.int .u8 11), .lit (.int .u8 11), .lit (.int .u8 9), .lit (.int .u8 0)]
def laid_creed_operators_kindNames {H : Type} : DataW H := .agg [.lit (.string [102, 121]), .lit (.string [102, 120]), .lit (.string [120, 102, 120]), .lit (.string [120, 102, 121]), .lit (.string [121, 102, 120]), .lit (.string [121, 102]), .lit (.string [120, 102])]
def laid_creed_operators_first {H : Type} : DataW H := .agg [.agg [.lit (.int .i64 1200), .lit (.string [120, 102, 120]), .lit (.string [58, 45])], .agg [.lit (.int .i64 1100), .lit (.string [120, 102, 121]), .lit (.string [59])], .agg [.lit (.int .i64 1000), .lit (.string [120, 102, 121]), .lit (.string [44])], .agg [.lit (.int .i64 900), .lit (.string [102, 121]), .lit (.string [92])], .agg [.lit (.int .i64 700), .lit (.string [120, 102, 120]), .lit (.string [61])], .agg [.lit (.int .i64 700), .lit (.string [120, 102, 120]), .lit (.string [60])], .agg [.lit (.int .i64 700), .lit (.string [120, 102, 120]), .lit (.string [62])], .agg [.lit (.int .i64 700), .lit (.string [120, 102, 120]), .lit (.string [105, 115])], .agg [.lit (.int .i64 500), .lit (.string [121, 102, 120]), .lit (.string [43])], .agg [.lit (.int .i64 500), .lit (.string [121, 102, 120]), .lit (.string [45])], .agg [.lit (.int .i64 400), .lit (.string [121, 102, 120]), .lit (.string [42])], .agg [.lit (.int .i64 400), .lit (.string [121, 102, 120]), .lit (.string [47])], .agg [.lit (.int .i64 200), .lit (.string [120, 102, 121]), .lit (.string [94])], .agg [.lit (.int .i64 200), .lit (.string [102, 121]), .lit (.string [45])]]

/-- 'creedlaw.Turns': WHATEVER THE INPUT: true; the input reads as it did. -/
def turnsSpec : ChangeSpec := { name := "turns", fn := fun _ => fun
  | [d] => { results := [.lit (.bool true)], args := [d] }
  | _ => none }
def turnsRow : OpenClaim := { program := "ytoobbkckpabamaadoor", sum := "37c7706f1019f054092f6d42ff01d82481defcc00e7985ce234e9d01804a5c6a", func := "creed/creedlaw.Turns", spec := "turns", inPlace := ["(*internal/sync.Mutex).Lock", "internal/race.Disable", "sync/atomic.CompareAndSwapInt32", "internal/race.Enable", "internal/race.Acquire", "(*internal/sync.Mutex).lockSlow", "internal/sync.runtime_canSpin", "internal/sync.runtime_doSpin", "internal/sync.throw", "internal/sync.runtime_nanotime", "internal/sync.runtime_SemacquireMutex", "sync/atomic.AddInt32", "(*internal/sync.Mutex).Unlock", "internal/race.ReleaseMerge", "(*internal/sync.Mutex).unlockSlow", "internal/sync.fatal", "internal/sync.runtime_Semrelease", "gosem.stop:(*creed/creedlaw.both).read", "gosem.stop:(*creed/creedlaw.both).written", "gosem.stop:(*creed/creedlaw.both).loaded", "gosem.stop:(*creed/creedlaw.both).solved"], unfollowed := true, recurses := true, named := ["creed/operators.first", "creed/operators.kindNames", "creed/signs.sorts"], loops := true, apart := false, laid := [("creed/signs.sorts", laid_creed_signs_sorts), ("creed/operators.kindNames", laid_creed_operators_kindNames), ("creed/operators.first", laid_creed_operators_first)] }
def TurnsSaid : Prop := turnsRow.holds Tryd.pinned (OpenSpec.ofChange turnsSpec)

/-- ITS FALSE NEIGHBOUR: 'it returns false'. Refute it at one input. -/
def turnsWrong : ChangeSpec := { name := "turns", fn := fun _ => fun
  | [d] => { results := [.lit (.bool false)], args := [d] }
  | _ => none }
def TurnsWrongFalsely : Prop := turnsRow.holds Tryd.pinned (OpenSpec.ofChange turnsWrong)

/-- 'creedlaw.Unmade': WHATEVER THE INPUT: true; the input reads as it did. -/
def unmadeSpec : ChangeSpec := { name := "unmade", fn := fun _ => fun
  | [] => { results := [.lit (.bool true)], args := [] }
  | _ => none }
def unmadeRow : OpenClaim := { program := "ytoobbkckpabamaadoor", sum := "37c7706f1019f054092f6d42ff01d82481defcc00e7985ce234e9d01804a5c6a", func := "creed/creedlaw.Unmade", spec := "unmade", inPlace := ["(*internal/sync.Mutex).Lock", "internal/race.Disable", "sync/atomic.CompareAndSwapInt32", "internal/race.Enable", "internal/race.Acquire", "(*internal/sync.Mutex).lockSlow", "internal/sync.runtime_canSpin", "internal/sync.runtime_doSpin", "internal/sync.throw", "internal/sync.runtime_nanotime", "internal/sync.runtime_SemacquireMutex", "sync/atomic.AddInt32", "(*internal/sync.Mutex).Unlock", "internal/race.ReleaseMerge", "(*internal/sync.Mutex).unlockSlow", "internal/sync.fatal", "internal/sync.runtime_Semrelease", "gosem.stop:(*creed/creed.Session).read", "gosem.stop:creed/terms.Proper", "gosem.stop:creed/writing.Text", "gosem.stop:creed/writing.Canonical", "gosem.stop:(*creed/creed.Session).takeIn", "gosem.stop:creed/searching.Solve"], unfollowed := true, recurses := true, named := ["creed/operators.kindNames", "creed/signs.sorts", "creed/operators.first"], apart := false, laid := [("creed/signs.sorts", laid_creed_signs_sorts), ("creed/operators.kindNames", laid_creed_operators_kindNames), ("creed/operators.first", laid_creed_operators_first)] }
def UnmadeSaid : Prop := unmadeRow.holds Tryd.pinned (OpenSpec.ofChange unmadeSpec)

/-- ITS FALSE NEIGHBOUR: 'it returns false'. Refute it at one input. -/
def unmadeWrong : ChangeSpec := { name := "unmade", fn := fun _ => fun
  | [] => { results := [.lit (.bool false)], args := [] }
  | _ => none }
def UnmadeWrongFalsely : Prop := unmadeRow.holds Tryd.pinned (OpenSpec.ofChange unmadeWrong)

/- THE SECOND FORM. 'bulk': how many values and letters a reading holds, each counted each time it is reached (what is shared counts as often as it is met; a slice's spare places count too). A statement '..UptoSaid' is the law's where the arguments, and the package variables that the reading takes, are together of bulk at most 1048576: NARROWER than '..Said'. Prove '..Said' where nothing that the law and all that it calls make is longer than what came in: it says more and counts as full. Else prove '..UptoSaid'. A law counts once. -/
mutual
def uptoBulk {H : Type} : DataW H → Nat
  | .lit (.string bytes) => bytes.length + 1
  | .lit _ => 1
  | .nil => 1
  | .ptr d => uptoBulk d + 1
  | .slice elems spare => uptoBulkAll elems + uptoBulkAll spare + 1
  | .agg parts => uptoBulkAll parts + 1
  | .iface _ d => uptoBulk d + 1
  | .map entries => uptoBulkEntries entries + 1
  | .held _ => 1
def uptoBulkAll {H : Type} : List (DataW H) → Nat
  | [] => 0
  | d :: r => uptoBulk d + uptoBulkAll r
def uptoBulkEntries {H : Type} : List (Lit × DataW H) → Nat
  | [] => 0
  | x :: r => uptoBulkEntry x + uptoBulkEntries r
def uptoBulkEntry {H : Type} : Lit × DataW H → Nat
  | (.string bytes, d) => bytes.length + uptoBulk d + 1
  | (_, d) => uptoBulk d + 1
 end
def uptoSmall : (H : Type) → List (DataW H) → Bool := fun _ ds => decide (uptoBulkAll ds ≤ 1048576)
def OpenSpec.upto (s : _root_.Go.ChangeSpec) : _root_.Go.OpenSpec := { _root_.Go.OpenSpec.ofChange s with cond := some uptoSmall }

/-- 'creedlaw.Turns', WHERE WHAT IT READS IS OF BULK AT MOST 1048576: true; the input reads as it did. -/
def turnsUptoRow : OpenClaim := { program := "ytoobbkckpabamaadoor", sum := "37c7706f1019f054092f6d42ff01d82481defcc00e7985ce234e9d01804a5c6a", func := "creed/creedlaw.Turns", spec := "turns", inPlace := ["(*internal/sync.Mutex).Lock", "internal/race.Disable", "sync/atomic.CompareAndSwapInt32", "internal/race.Enable", "internal/race.Acquire", "(*internal/sync.Mutex).lockSlow", "internal/sync.runtime_canSpin", "internal/sync.runtime_doSpin", "internal/sync.throw", "internal/sync.runtime_nanotime", "internal/sync.runtime_SemacquireMutex", "sync/atomic.AddInt32", "(*internal/sync.Mutex).Unlock", "internal/race.ReleaseMerge", "(*internal/sync.Mutex).unlockSlow", "internal/sync.fatal", "internal/sync.runtime_Semrelease", "gosem.stop:(*creed/creedlaw.both).read", "gosem.stop:(*creed/creedlaw.both).written", "gosem.stop:(*creed/creedlaw.both).loaded", "gosem.stop:(*creed/creedlaw.both).solved"], unfollowed := true, recurses := true, named := ["creed/operators.first", "creed/operators.kindNames", "creed/signs.sorts"], loops := true, apart := false, laid := [("creed/signs.sorts", laid_creed_signs_sorts), ("creed/operators.kindNames", laid_creed_operators_kindNames), ("creed/operators.first", laid_creed_operators_first)], narrowed := true }
def TurnsUptoSaid : Prop := turnsUptoRow.holds Tryd.pinned (OpenSpec.upto turnsSpec)

/-- 'creedlaw.Unmade', WHERE WHAT IT READS IS OF BULK AT MOST 1048576: true; the input reads as it did. -/
def unmadeUptoRow : OpenClaim := { program := "ytoobbkckpabamaadoor", sum := "37c7706f1019f054092f6d42ff01d82481defcc00e7985ce234e9d01804a5c6a", func := "creed/creedlaw.Unmade", spec := "unmade", inPlace := ["(*internal/sync.Mutex).Lock", "internal/race.Disable", "sync/atomic.CompareAndSwapInt32", "internal/race.Enable", "internal/race.Acquire", "(*internal/sync.Mutex).lockSlow", "internal/sync.runtime_canSpin", "internal/sync.runtime_doSpin", "internal/sync.throw", "internal/sync.runtime_nanotime", "internal/sync.runtime_SemacquireMutex", "sync/atomic.AddInt32", "(*internal/sync.Mutex).Unlock", "internal/race.ReleaseMerge", "(*internal/sync.Mutex).unlockSlow", "internal/sync.fatal", "internal/sync.runtime_Semrelease", "gosem.stop:(*creed/creed.Session).read", "gosem.stop:creed/terms.Proper", "gosem.stop:creed/writing.Text", "gosem.stop:creed/writing.Canonical", "gosem.stop:(*creed/creed.Session).takeIn", "gosem.stop:creed/searching.Solve"], unfollowed := true, recurses := true, named := ["creed/operators.kindNames", "creed/signs.sorts", "creed/operators.first"], apart := false, laid := [("creed/signs.sorts", laid_creed_signs_sorts), ("creed/operators.kindNames", laid_creed_operators_kindNames), ("creed/operators.first", laid_creed_operators_first)], narrowed := true }
def UnmadeUptoSaid : Prop := unmadeUptoRow.holds Tryd.pinned (OpenSpec.upto unmadeSpec)

end Rows
end Go.Proofs.YtoobbkckpabamaaDoor
