/-
  No cell of these rows narrows 'for every input' (looked for: loops, veiled, ifaces, maps, wideKeys, modest, calm, conditions, laid).
  DERIVED. THE GIVEN ROWS OF THIS SEAT. 9 by the template 'for every input the law returns true; each argument reads behind the call as it read before'; 0 by the template 'total and deterministic' (their statements: YtboojlkncbipoaaGreatTotals.lean).
  GIVEN WITH THE SEED: the statements are not yours to turn. If you find one false, say at which input.
  Laid BY PROGRAM, IN A SANDBOX (cutbox-rows.mjs): the forced cells as the released guide's own fill.sh prints them over the translation 636a4feb596e1791… (all of the seat's roots in one cut). By AI agents, Wed Nov 11 2026. No macro, syntax, notation, axiom, sorry.
-/
import Derived.Test.YtboojlkncbipoaaGreatChecked
import GoSem.Claim
import GoSem.ClaimJoined
import GoSem.ClaimMapViews
import Derived.JoinedTies
import Derived.KernelRfl
namespace Go.Proofs.YtboojlkncbipoaaGreat
/- THE CELL 'sum', in the pinned program and in every row, IS THE sha256 OF THE DUMP (.gsa) THAT YtboojlkncbipoaaGreatProg.lean LOADS. Nothing in Lean hashes anything: it is a label: what it is worth is what the hold of that sum in a sandbox is worth. -/
noncomputable def Tryz.pinned : Pinned := { name := "ytboojlkncbipoaagreat", sum := "636a4feb596e179102200b3381f7294e475e7337600358f8f6b3ae317db3b2d0", checked := Tryz.checked }
namespace Rows
def none {H : Type} : Left H := { results := [], args := [] }

/-- 'tintypelaw26.QoiDecodes': WHATEVER THE INPUT: true; the input reads as it did. -/
def qoiDecodesSpec : ChangeSpec := { name := "qoiDecodes", fn := fun _ => fun
  | [d] => { results := [.lit (.bool true)], args := [d] }
  | _ => none }
def qoiDecodesRow : OpenClaim := { program := "ytboojlkncbipoaagreat", sum := "636a4feb596e179102200b3381f7294e475e7337600358f8f6b3ae317db3b2d0", func := "tintype/tintypelaw26.QoiDecodes", spec := "qoiDecodes", inPlace := ["internal/abi.NoEscape", "sync/atomic.LoadUint32", "(*internal/sync.Mutex).Lock", "internal/race.Disable", "sync/atomic.CompareAndSwapInt32", "internal/race.Enable", "internal/race.Acquire", "(*internal/sync.Mutex).lockSlow", "internal/sync.runtime_canSpin", "internal/sync.runtime_doSpin", "internal/sync.throw", "internal/sync.runtime_nanotime", "internal/sync.runtime_SemacquireMutex", "sync/atomic.AddInt32", "(*internal/sync.Mutex).Unlock", "internal/race.ReleaseMerge", "(*internal/sync.Mutex).unlockSlow", "internal/sync.fatal", "internal/sync.runtime_Semrelease", "sync/atomic.StoreUint32", "sync/atomic.LoadInt64", "sync/atomic.CompareAndSwapInt64"], unfollowed := true, recurses := true, plainKeys := false, apart := false }
def QoiDecodesSaid : Prop := qoiDecodesRow.holds Tryz.pinned (OpenSpec.ofChange qoiDecodesSpec)

/-- ITS FALSE NEIGHBOUR: 'it returns false'. Refute it at one input. -/
def qoiDecodesWrong : ChangeSpec := { name := "qoiDecodes", fn := fun _ => fun
  | [d] => { results := [.lit (.bool false)], args := [d] }
  | _ => none }
def QoiDecodesWrongFalsely : Prop := qoiDecodesRow.holds Tryz.pinned (OpenSpec.ofChange qoiDecodesWrong)

/-- 'tintypelaw26.QoiBudgets': WHATEVER THE INPUT: true; the input reads as it did. -/
def qoiBudgetsSpec : ChangeSpec := { name := "qoiBudgets", fn := fun _ => fun
  | [d1, d2] => { results := [.lit (.bool true)], args := [d1, d2] }
  | _ => none }
def qoiBudgetsRow : OpenClaim := { program := "ytboojlkncbipoaagreat", sum := "636a4feb596e179102200b3381f7294e475e7337600358f8f6b3ae317db3b2d0", func := "tintype/tintypelaw26.QoiBudgets", spec := "qoiBudgets", inPlace := ["internal/abi.NoEscape", "sync/atomic.LoadUint32", "(*internal/sync.Mutex).Lock", "internal/race.Disable", "sync/atomic.CompareAndSwapInt32", "internal/race.Enable", "internal/race.Acquire", "(*internal/sync.Mutex).lockSlow", "internal/sync.runtime_canSpin", "internal/sync.runtime_doSpin", "internal/sync.throw", "internal/sync.runtime_nanotime", "internal/sync.runtime_SemacquireMutex", "sync/atomic.AddInt32", "(*internal/sync.Mutex).Unlock", "internal/race.ReleaseMerge", "(*internal/sync.Mutex).unlockSlow", "internal/sync.fatal", "internal/sync.runtime_Semrelease", "sync/atomic.StoreUint32", "sync/atomic.LoadInt64", "sync/atomic.CompareAndSwapInt64"], unfollowed := true, recurses := true, plainKeys := false, apart := false }
def QoiBudgetsSaid : Prop := qoiBudgetsRow.holds Tryz.pinned (OpenSpec.ofChange qoiBudgetsSpec)

/-- ITS FALSE NEIGHBOUR: 'it returns false'. Refute it at one input. -/
def qoiBudgetsWrong : ChangeSpec := { name := "qoiBudgets", fn := fun _ => fun
  | [d1, d2] => { results := [.lit (.bool false)], args := [d1, d2] }
  | _ => none }
def QoiBudgetsWrongFalsely : Prop := qoiBudgetsRow.holds Tryz.pinned (OpenSpec.ofChange qoiBudgetsWrong)

/-- 'tintypelaw26.QoiBack': WHATEVER THE INPUT: true; the input reads as it did. -/
def qoiBackSpec : ChangeSpec := { name := "qoiBack", fn := fun _ => fun
  | [d] => { results := [.lit (.bool true)], args := [d] }
  | _ => none }
def qoiBackRow : OpenClaim := { program := "ytboojlkncbipoaagreat", sum := "636a4feb596e179102200b3381f7294e475e7337600358f8f6b3ae317db3b2d0", func := "tintype/tintypelaw26.QoiBack", spec := "qoiBack", inPlace := ["internal/abi.NoEscape", "sync/atomic.LoadUint32", "(*internal/sync.Mutex).Lock", "internal/race.Disable", "sync/atomic.CompareAndSwapInt32", "internal/race.Enable", "internal/race.Acquire", "(*internal/sync.Mutex).lockSlow", "internal/sync.runtime_canSpin", "internal/sync.runtime_doSpin", "internal/sync.throw", "internal/sync.runtime_nanotime", "internal/sync.runtime_SemacquireMutex", "sync/atomic.AddInt32", "(*internal/sync.Mutex).Unlock", "internal/race.ReleaseMerge", "(*internal/sync.Mutex).unlockSlow", "internal/sync.fatal", "internal/sync.runtime_Semrelease", "sync/atomic.StoreUint32", "sync/atomic.LoadInt64", "sync/atomic.CompareAndSwapInt64"], unfollowed := true, recurses := true, plainKeys := false, apart := false }
def QoiBackSaid : Prop := qoiBackRow.holds Tryz.pinned (OpenSpec.ofChange qoiBackSpec)

/-- ITS FALSE NEIGHBOUR: 'it returns false'. Refute it at one input. -/
def qoiBackWrong : ChangeSpec := { name := "qoiBack", fn := fun _ => fun
  | [d] => { results := [.lit (.bool false)], args := [d] }
  | _ => none }
def QoiBackWrongFalsely : Prop := qoiBackRow.holds Tryz.pinned (OpenSpec.ofChange qoiBackWrong)

/-- 'tintypelaw27.FfDecodes': WHATEVER THE INPUT: true; the input reads as it did. -/
def ffDecodesSpec : ChangeSpec := { name := "ffDecodes", fn := fun _ => fun
  | [d] => { results := [.lit (.bool true)], args := [d] }
  | _ => none }
def ffDecodesRow : OpenClaim := { program := "ytboojlkncbipoaagreat", sum := "636a4feb596e179102200b3381f7294e475e7337600358f8f6b3ae317db3b2d0", func := "tintype/tintypelaw27.FfDecodes", spec := "ffDecodes", inPlace := ["sync/atomic.LoadUint32", "(*internal/sync.Mutex).Lock", "internal/race.Disable", "sync/atomic.CompareAndSwapInt32", "internal/race.Enable", "internal/race.Acquire", "(*internal/sync.Mutex).lockSlow", "internal/sync.runtime_canSpin", "internal/sync.runtime_doSpin", "internal/sync.throw", "internal/sync.runtime_nanotime", "internal/sync.runtime_SemacquireMutex", "sync/atomic.AddInt32", "(*internal/sync.Mutex).Unlock", "internal/race.ReleaseMerge", "(*internal/sync.Mutex).unlockSlow", "internal/sync.fatal", "internal/sync.runtime_Semrelease", "sync/atomic.StoreUint32", "sync/atomic.LoadInt64", "sync/atomic.CompareAndSwapInt64"], unfollowed := true, recurses := true, plainKeys := false, apart := false }
def FfDecodesSaid : Prop := ffDecodesRow.holds Tryz.pinned (OpenSpec.ofChange ffDecodesSpec)

/-- ITS FALSE NEIGHBOUR: 'it returns false'. Refute it at one input. -/
def ffDecodesWrong : ChangeSpec := { name := "ffDecodes", fn := fun _ => fun
  | [d] => { results := [.lit (.bool false)], args := [d] }
  | _ => none }
def FfDecodesWrongFalsely : Prop := ffDecodesRow.holds Tryz.pinned (OpenSpec.ofChange ffDecodesWrong)

/-- 'tintypelaw27.FfBudgets': WHATEVER THE INPUT: true; the input reads as it did. -/
def ffBudgetsSpec : ChangeSpec := { name := "ffBudgets", fn := fun _ => fun
  | [d1, d2] => { results := [.lit (.bool true)], args := [d1, d2] }
  | _ => none }
def ffBudgetsRow : OpenClaim := { program := "ytboojlkncbipoaagreat", sum := "636a4feb596e179102200b3381f7294e475e7337600358f8f6b3ae317db3b2d0", func := "tintype/tintypelaw27.FfBudgets", spec := "ffBudgets", inPlace := ["sync/atomic.LoadUint32", "(*internal/sync.Mutex).Lock", "internal/race.Disable", "sync/atomic.CompareAndSwapInt32", "internal/race.Enable", "internal/race.Acquire", "(*internal/sync.Mutex).lockSlow", "internal/sync.runtime_canSpin", "internal/sync.runtime_doSpin", "internal/sync.throw", "internal/sync.runtime_nanotime", "internal/sync.runtime_SemacquireMutex", "sync/atomic.AddInt32", "(*internal/sync.Mutex).Unlock", "internal/race.ReleaseMerge", "(*internal/sync.Mutex).unlockSlow", "internal/sync.fatal", "internal/sync.runtime_Semrelease", "sync/atomic.StoreUint32", "sync/atomic.LoadInt64", "sync/atomic.CompareAndSwapInt64"], unfollowed := true, recurses := true, plainKeys := false, apart := false }
def FfBudgetsSaid : Prop := ffBudgetsRow.holds Tryz.pinned (OpenSpec.ofChange ffBudgetsSpec)

/-- ITS FALSE NEIGHBOUR: 'it returns false'. Refute it at one input. -/
def ffBudgetsWrong : ChangeSpec := { name := "ffBudgets", fn := fun _ => fun
  | [d1, d2] => { results := [.lit (.bool false)], args := [d1, d2] }
  | _ => none }
def FfBudgetsWrongFalsely : Prop := ffBudgetsRow.holds Tryz.pinned (OpenSpec.ofChange ffBudgetsWrong)

/-- 'tintypelaw27.FfBack': WHATEVER THE INPUT: true; the input reads as it did. -/
def ffBackSpec : ChangeSpec := { name := "ffBack", fn := fun _ => fun
  | [d] => { results := [.lit (.bool true)], args := [d] }
  | _ => none }
def ffBackRow : OpenClaim := { program := "ytboojlkncbipoaagreat", sum := "636a4feb596e179102200b3381f7294e475e7337600358f8f6b3ae317db3b2d0", func := "tintype/tintypelaw27.FfBack", spec := "ffBack", inPlace := ["sync/atomic.LoadUint32", "(*internal/sync.Mutex).Lock", "internal/race.Disable", "sync/atomic.CompareAndSwapInt32", "internal/race.Enable", "internal/race.Acquire", "(*internal/sync.Mutex).lockSlow", "internal/sync.runtime_canSpin", "internal/sync.runtime_doSpin", "internal/sync.throw", "internal/sync.runtime_nanotime", "internal/sync.runtime_SemacquireMutex", "sync/atomic.AddInt32", "(*internal/sync.Mutex).Unlock", "internal/race.ReleaseMerge", "(*internal/sync.Mutex).unlockSlow", "internal/sync.fatal", "internal/sync.runtime_Semrelease", "sync/atomic.StoreUint32", "sync/atomic.LoadInt64", "sync/atomic.CompareAndSwapInt64", "internal/abi.NoEscape", "internal/bytealg.MakeNoZero"], unfollowed := true, recurses := true, plainKeys := false, apart := false }
def FfBackSaid : Prop := ffBackRow.holds Tryz.pinned (OpenSpec.ofChange ffBackSpec)

/-- ITS FALSE NEIGHBOUR: 'it returns false'. Refute it at one input. -/
def ffBackWrong : ChangeSpec := { name := "ffBack", fn := fun _ => fun
  | [d] => { results := [.lit (.bool false)], args := [d] }
  | _ => none }
def FfBackWrongFalsely : Prop := ffBackRow.holds Tryz.pinned (OpenSpec.ofChange ffBackWrong)

/-- 'tintypelaw29.SunDecodes': WHATEVER THE INPUT: true; the input reads as it did. -/
def sunDecodesSpec : ChangeSpec := { name := "sunDecodes", fn := fun _ => fun
  | [d] => { results := [.lit (.bool true)], args := [d] }
  | _ => none }
def sunDecodesRow : OpenClaim := { program := "ytboojlkncbipoaagreat", sum := "636a4feb596e179102200b3381f7294e475e7337600358f8f6b3ae317db3b2d0", func := "tintype/tintypelaw29.SunDecodes", spec := "sunDecodes", inPlace := ["internal/abi.NoEscape", "internal/bytealg.MakeNoZero", "sync/atomic.LoadUint32", "(*internal/sync.Mutex).Lock", "internal/race.Disable", "sync/atomic.CompareAndSwapInt32", "internal/race.Enable", "internal/race.Acquire", "(*internal/sync.Mutex).lockSlow", "internal/sync.runtime_canSpin", "internal/sync.runtime_doSpin", "internal/sync.throw", "internal/sync.runtime_nanotime", "internal/sync.runtime_SemacquireMutex", "sync/atomic.AddInt32", "(*internal/sync.Mutex).Unlock", "internal/race.ReleaseMerge", "(*internal/sync.Mutex).unlockSlow", "internal/sync.fatal", "internal/sync.runtime_Semrelease", "sync/atomic.StoreUint32", "sync/atomic.LoadInt64", "sync/atomic.CompareAndSwapInt64"], unfollowed := true, recurses := true, plainKeys := false, apart := false }
def SunDecodesSaid : Prop := sunDecodesRow.holds Tryz.pinned (OpenSpec.ofChange sunDecodesSpec)

/-- ITS FALSE NEIGHBOUR: 'it returns false'. Refute it at one input. -/
def sunDecodesWrong : ChangeSpec := { name := "sunDecodes", fn := fun _ => fun
  | [d] => { results := [.lit (.bool false)], args := [d] }
  | _ => none }
def SunDecodesWrongFalsely : Prop := sunDecodesRow.holds Tryz.pinned (OpenSpec.ofChange sunDecodesWrong)

/-- 'tintypelaw29.SunBudgets': WHATEVER THE INPUT: true; the input reads as it did. -/
def sunBudgetsSpec : ChangeSpec := { name := "sunBudgets", fn := fun _ => fun
  | [d1, d2] => { results := [.lit (.bool true)], args := [d1, d2] }
  | _ => none }
def sunBudgetsRow : OpenClaim := { program := "ytboojlkncbipoaagreat", sum := "636a4feb596e179102200b3381f7294e475e7337600358f8f6b3ae317db3b2d0", func := "tintype/tintypelaw29.SunBudgets", spec := "sunBudgets", inPlace := ["internal/abi.NoEscape", "internal/bytealg.MakeNoZero", "sync/atomic.LoadUint32", "(*internal/sync.Mutex).Lock", "internal/race.Disable", "sync/atomic.CompareAndSwapInt32", "internal/race.Enable", "internal/race.Acquire", "(*internal/sync.Mutex).lockSlow", "internal/sync.runtime_canSpin", "internal/sync.runtime_doSpin", "internal/sync.throw", "internal/sync.runtime_nanotime", "internal/sync.runtime_SemacquireMutex", "sync/atomic.AddInt32", "(*internal/sync.Mutex).Unlock", "internal/race.ReleaseMerge", "(*internal/sync.Mutex).unlockSlow", "internal/sync.fatal", "internal/sync.runtime_Semrelease", "sync/atomic.StoreUint32", "sync/atomic.LoadInt64", "sync/atomic.CompareAndSwapInt64"], unfollowed := true, recurses := true, plainKeys := false, apart := false }
def SunBudgetsSaid : Prop := sunBudgetsRow.holds Tryz.pinned (OpenSpec.ofChange sunBudgetsSpec)

/-- ITS FALSE NEIGHBOUR: 'it returns false'. Refute it at one input. -/
def sunBudgetsWrong : ChangeSpec := { name := "sunBudgets", fn := fun _ => fun
  | [d1, d2] => { results := [.lit (.bool false)], args := [d1, d2] }
  | _ => none }
def SunBudgetsWrongFalsely : Prop := sunBudgetsRow.holds Tryz.pinned (OpenSpec.ofChange sunBudgetsWrong)

/-- 'tintypelaw29.SunBack': WHATEVER THE INPUT: true; the input reads as it did. -/
def sunBackSpec : ChangeSpec := { name := "sunBack", fn := fun _ => fun
  | [d1, d2] => { results := [.lit (.bool true)], args := [d1, d2] }
  | _ => none }
def sunBackRow : OpenClaim := { program := "ytboojlkncbipoaagreat", sum := "636a4feb596e179102200b3381f7294e475e7337600358f8f6b3ae317db3b2d0", func := "tintype/tintypelaw29.SunBack", spec := "sunBack", inPlace := ["internal/abi.NoEscape", "internal/bytealg.MakeNoZero", "sync/atomic.LoadUint32", "(*internal/sync.Mutex).Lock", "internal/race.Disable", "sync/atomic.CompareAndSwapInt32", "internal/race.Enable", "internal/race.Acquire", "(*internal/sync.Mutex).lockSlow", "internal/sync.runtime_canSpin", "internal/sync.runtime_doSpin", "internal/sync.throw", "internal/sync.runtime_nanotime", "internal/sync.runtime_SemacquireMutex", "sync/atomic.AddInt32", "(*internal/sync.Mutex).Unlock", "internal/race.ReleaseMerge", "(*internal/sync.Mutex).unlockSlow", "internal/sync.fatal", "internal/sync.runtime_Semrelease", "sync/atomic.StoreUint32", "sync/atomic.LoadInt64", "sync/atomic.CompareAndSwapInt64"], unfollowed := true, recurses := true, plainKeys := false, apart := false }
def SunBackSaid : Prop := sunBackRow.holds Tryz.pinned (OpenSpec.ofChange sunBackSpec)

/-- ITS FALSE NEIGHBOUR: 'it returns false'. Refute it at one input. -/
def sunBackWrong : ChangeSpec := { name := "sunBack", fn := fun _ => fun
  | [d1, d2] => { results := [.lit (.bool false)], args := [d1, d2] }
  | _ => none }
def SunBackWrongFalsely : Prop := sunBackRow.holds Tryz.pinned (OpenSpec.ofChange sunBackWrong)

/- THE SECOND FORM. 'bulk': how many values and letters a reading holds, each counted each time it is reached (what is shared counts as often as it is met; a slice's spare places count too). A statement '..UptoSaid' is the law's where the arguments, and the package variables that the reading takes, are together of bulk at most 1048576: NARROWER than '..Said'. Prove '..Said' where nothing that the law and all that it calls make is longer than what came in: it says more and counts as full. Else prove '..UptoSaid'. A law counts once. -/
mutual
def uptoBulk {H : Type} : DataW H → Nat
  | .lit (.string bytes) => bytes.length + 1
  | .lit _ => 1
  | .nil => 1
  | .ptr d => uptoBulk d + 1
  | .slice elems spare => uptoBulkAll elems + uptoBulkAll spare + 1
  | .agg parts => uptoBulkAll parts + 1
  | .iface _ d => uptoBulk d + 1
  | .map entries => uptoBulkEntries entries + 1
  | .held _ => 1
def uptoBulkAll {H : Type} : List (DataW H) → Nat
  | [] => 0
  | d :: r => uptoBulk d + uptoBulkAll r
def uptoBulkEntries {H : Type} : List (Lit × DataW H) → Nat
  | [] => 0
  | x :: r => uptoBulkEntry x + uptoBulkEntries r
def uptoBulkEntry {H : Type} : Lit × DataW H → Nat
  | (.string bytes, d) => bytes.length + uptoBulk d + 1
  | (_, d) => uptoBulk d + 1
 end
def uptoSmall : (H : Type) → List (DataW H) → Bool := fun _ ds => decide (uptoBulkAll ds ≤ 1048576)
def OpenSpec.upto (s : _root_.Go.ChangeSpec) : _root_.Go.OpenSpec := { _root_.Go.OpenSpec.ofChange s with cond := some uptoSmall }

/-- 'tintypelaw26.QoiDecodes', WHERE WHAT IT READS IS OF BULK AT MOST 1048576: true; the input reads as it did. -/
def qoiDecodesUptoRow : OpenClaim := { program := "ytboojlkncbipoaagreat", sum := "636a4feb596e179102200b3381f7294e475e7337600358f8f6b3ae317db3b2d0", func := "tintype/tintypelaw26.QoiDecodes", spec := "qoiDecodes", inPlace := ["internal/abi.NoEscape", "sync/atomic.LoadUint32", "(*internal/sync.Mutex).Lock", "internal/race.Disable", "sync/atomic.CompareAndSwapInt32", "internal/race.Enable", "internal/race.Acquire", "(*internal/sync.Mutex).lockSlow", "internal/sync.runtime_canSpin", "internal/sync.runtime_doSpin", "internal/sync.throw", "internal/sync.runtime_nanotime", "internal/sync.runtime_SemacquireMutex", "sync/atomic.AddInt32", "(*internal/sync.Mutex).Unlock", "internal/race.ReleaseMerge", "(*internal/sync.Mutex).unlockSlow", "internal/sync.fatal", "internal/sync.runtime_Semrelease", "sync/atomic.StoreUint32", "sync/atomic.LoadInt64", "sync/atomic.CompareAndSwapInt64"], unfollowed := true, recurses := true, plainKeys := false, apart := false, narrowed := true }
def QoiDecodesUptoSaid : Prop := qoiDecodesUptoRow.holds Tryz.pinned (OpenSpec.upto qoiDecodesSpec)

/-- 'tintypelaw26.QoiBudgets', WHERE WHAT IT READS IS OF BULK AT MOST 1048576: true; the input reads as it did. -/
def qoiBudgetsUptoRow : OpenClaim := { program := "ytboojlkncbipoaagreat", sum := "636a4feb596e179102200b3381f7294e475e7337600358f8f6b3ae317db3b2d0", func := "tintype/tintypelaw26.QoiBudgets", spec := "qoiBudgets", inPlace := ["internal/abi.NoEscape", "sync/atomic.LoadUint32", "(*internal/sync.Mutex).Lock", "internal/race.Disable", "sync/atomic.CompareAndSwapInt32", "internal/race.Enable", "internal/race.Acquire", "(*internal/sync.Mutex).lockSlow", "internal/sync.runtime_canSpin", "internal/sync.runtime_doSpin", "internal/sync.throw", "internal/sync.runtime_nanotime", "internal/sync.runtime_SemacquireMutex", "sync/atomic.AddInt32", "(*internal/sync.Mutex).Unlock", "internal/race.ReleaseMerge", "(*internal/sync.Mutex).unlockSlow", "internal/sync.fatal", "internal/sync.runtime_Semrelease", "sync/atomic.StoreUint32", "sync/atomic.LoadInt64", "sync/atomic.CompareAndSwapInt64"], unfollowed := true, recurses := true, plainKeys := false, apart := false, narrowed := true }
def QoiBudgetsUptoSaid : Prop := qoiBudgetsUptoRow.holds Tryz.pinned (OpenSpec.upto qoiBudgetsSpec)

/-- 'tintypelaw26.QoiBack', WHERE WHAT IT READS IS OF BULK AT MOST 1048576: true; the input reads as it did. -/
def qoiBackUptoRow : OpenClaim := { program := "ytboojlkncbipoaagreat", sum := "636a4feb596e179102200b3381f7294e475e7337600358f8f6b3ae317db3b2d0", func := "tintype/tintypelaw26.QoiBack", spec := "qoiBack", inPlace := ["internal/abi.NoEscape", "sync/atomic.LoadUint32", "(*internal/sync.Mutex).Lock", "internal/race.Disable", "sync/atomic.CompareAndSwapInt32", "internal/race.Enable", "internal/race.Acquire", "(*internal/sync.Mutex).lockSlow", "internal/sync.runtime_canSpin", "internal/sync.runtime_doSpin", "internal/sync.throw", "internal/sync.runtime_nanotime", "internal/sync.runtime_SemacquireMutex", "sync/atomic.AddInt32", "(*internal/sync.Mutex).Unlock", "internal/race.ReleaseMerge", "(*internal/sync.Mutex).unlockSlow", "internal/sync.fatal", "internal/sync.runtime_Semrelease", "sync/atomic.StoreUint32", "sync/atomic.LoadInt64", "sync/atomic.CompareAndSwapInt64"], unfollowed := true, recurses := true, plainKeys := false, apart := false, narrowed := true }
def QoiBackUptoSaid : Prop := qoiBackUptoRow.holds Tryz.pinned (OpenSpec.upto qoiBackSpec)

/-- 'tintypelaw27.FfDecodes', WHERE WHAT IT READS IS OF BULK AT MOST 1048576: true; the input reads as it did. -/
def ffDecodesUptoRow : OpenClaim := { program := "ytboojlkncbipoaagreat", sum := "636a4feb596e179102200b3381f7294e475e7337600358f8f6b3ae317db3b2d0", func := "tintype/tintypelaw27.FfDecodes", spec := "ffDecodes", inPlace := ["sync/atomic.LoadUint32", "(*internal/sync.Mutex).Lock", "internal/race.Disable", "sync/atomic.CompareAndSwapInt32", "internal/race.Enable", "internal/race.Acquire", "(*internal/sync.Mutex).lockSlow", "internal/sync.runtime_canSpin", "internal/sync.runtime_doSpin", "internal/sync.throw", "internal/sync.runtime_nanotime", "internal/sync.runtime_SemacquireMutex", "sync/atomic.AddInt32", "(*internal/sync.Mutex).Unlock", "internal/race.ReleaseMerge", "(*internal/sync.Mutex).unlockSlow", "internal/sync.fatal", "internal/sync.runtime_Semrelease", "sync/atomic.StoreUint32", "sync/atomic.LoadInt64", "sync/atomic.CompareAndSwapInt64"], unfollowed := true, recurses := true, plainKeys := false, apart := false, narrowed := true }
def FfDecodesUptoSaid : Prop := ffDecodesUptoRow.holds Tryz.pinned (OpenSpec.upto ffDecodesSpec)

/-- 'tintypelaw27.FfBudgets', WHERE WHAT IT READS IS OF BULK AT MOST 1048576: true; the input reads as it did. -/
def ffBudgetsUptoRow : OpenClaim := { program := "ytboojlkncbipoaagreat", sum := "636a4feb596e179102200b3381f7294e475e7337600358f8f6b3ae317db3b2d0", func := "tintype/tintypelaw27.FfBudgets", spec := "ffBudgets", inPlace := ["sync/atomic.LoadUint32", "(*internal/sync.Mutex).Lock", "internal/race.Disable", "sync/atomic.CompareAndSwapInt32", "internal/race.Enable", "internal/race.Acquire", "(*internal/sync.Mutex).lockSlow", "internal/sync.runtime_canSpin", "internal/sync.runtime_doSpin", "internal/sync.throw", "internal/sync.runtime_nanotime", "internal/sync.runtime_SemacquireMutex", "sync/atomic.AddInt32", "(*internal/sync.Mutex).Unlock", "internal/race.ReleaseMerge", "(*internal/sync.Mutex).unlockSlow", "internal/sync.fatal", "internal/sync.runtime_Semrelease", "sync/atomic.StoreUint32", "sync/atomic.LoadInt64", "sync/atomic.CompareAndSwapInt64"], unfollowed := true, recurses := true, plainKeys := false, apart := false, narrowed := true }
def FfBudgetsUptoSaid : Prop := ffBudgetsUptoRow.holds Tryz.pinned (OpenSpec.upto ffBudgetsSpec)

/-- 'tintypelaw27.FfBack', WHERE WHAT IT READS IS OF BULK AT MOST 1048576: true; the input reads as it did. -/
def ffBackUptoRow : OpenClaim := { program := "ytboojlkncbipoaagreat", sum := "636a4feb596e179102200b3381f7294e475e7337600358f8f6b3ae317db3b2d0", func := "tintype/tintypelaw27.FfBack", spec := "ffBack", inPlace := ["sync/atomic.LoadUint32", "(*internal/sync.Mutex).Lock", "internal/race.Disable", "sync/atomic.CompareAndSwapInt32", "internal/race.Enable", "internal/race.Acquire", "(*internal/sync.Mutex).lockSlow", "internal/sync.runtime_canSpin", "internal/sync.runtime_doSpin", "internal/sync.throw", "internal/sync.runtime_nanotime", "internal/sync.runtime_SemacquireMutex", "sync/atomic.AddInt32", "(*internal/sync.Mutex).Unlock", "internal/race.ReleaseMerge", "(*internal/sync.Mutex).unlockSlow", "internal/sync.fatal", "internal/sync.runtime_Semrelease", "sync/atomic.StoreUint32", "sync/atomic.LoadInt64", "sync/atomic.CompareAndSwapInt64", "internal/abi.NoEscape", "internal/bytealg.MakeNoZero"], unfollowed := true, recurses := true, plainKeys := false, apart := false, narrowed := true }
def FfBackUptoSaid : Prop := ffBackUptoRow.holds Tryz.pinned (OpenSpec.upto ffBackSpec)

/-- 'tintypelaw29.SunDecodes', WHERE WHAT IT READS IS OF BULK AT MOST 1048576: true; the input reads as it did. -/
def sunDecodesUptoRow : OpenClaim := { program := "ytboojlkncbipoaagreat", sum := "636a4feb596e179102200b3381f7294e475e7337600358f8f6b3ae317db3b2d0", func := "tintype/tintypelaw29.SunDecodes", spec := "sunDecodes", inPlace := ["internal/abi.NoEscape", "internal/bytealg.MakeNoZero", "sync/atomic.LoadUint32", "(*internal/sync.Mutex).Lock", "internal/race.Disable", "sync/atomic.CompareAndSwapInt32", "internal/race.Enable", "internal/race.Acquire", "(*internal/sync.Mutex).lockSlow", "internal/sync.runtime_canSpin", "internal/sync.runtime_doSpin", "internal/sync.throw", "internal/sync.runtime_nanotime", "internal/sync.runtime_SemacquireMutex", "sync/atomic.AddInt32", "(*internal/sync.Mutex).Unlock", "internal/race.ReleaseMerge", "(*internal/sync.Mutex).unlockSlow", "internal/sync.fatal", "internal/sync.runtime_Semrelease", "sync/atomic.StoreUint32", "sync/atomic.LoadInt64", "sync/atomic.CompareAndSwapInt64"], unfollowed := true, recurses := true, plainKeys := false, apart := false, narrowed := true }
def SunDecodesUptoSaid : Prop := sunDecodesUptoRow.holds Tryz.pinned (OpenSpec.upto sunDecodesSpec)

/-- 'tintypelaw29.SunBudgets', WHERE WHAT IT READS IS OF BULK AT MOST 1048576: true; the input reads as it did. -/
def sunBudgetsUptoRow : OpenClaim := { program := "ytboojlkncbipoaagreat", sum := "636a4feb596e179102200b3381f7294e475e7337600358f8f6b3ae317db3b2d0", func := "tintype/tintypelaw29.SunBudgets", spec := "sunBudgets", inPlace := ["internal/abi.NoEscape", "internal/bytealg.MakeNoZero", "sync/atomic.LoadUint32", "(*internal/sync.Mutex).Lock", "internal/race.Disable", "sync/atomic.CompareAndSwapInt32", "internal/race.Enable", "internal/race.Acquire", "(*internal/sync.Mutex).lockSlow", "internal/sync.runtime_canSpin", "internal/sync.runtime_doSpin", "internal/sync.throw", "internal/sync.runtime_nanotime", "internal/sync.runtime_SemacquireMutex", "sync/atomic.AddInt32", "(*internal/sync.Mutex).Unlock", "internal/race.ReleaseMerge", "(*internal/sync.Mutex).unlockSlow", "internal/sync.fatal", "internal/sync.runtime_Semrelease", "sync/atomic.StoreUint32", "sync/atomic.LoadInt64", "sync/atomic.CompareAndSwapInt64"], unfollowed := true, recurses := true, plainKeys := false, apart := false, narrowed := true }
def SunBudgetsUptoSaid : Prop := sunBudgetsUptoRow.holds Tryz.pinned (OpenSpec.upto sunBudgetsSpec)

/-- 'tintypelaw29.SunBack', WHERE WHAT IT READS IS OF BULK AT MOST 1048576: true; the input reads as it did. -/
def sunBackUptoRow : OpenClaim := { program := "ytboojlkncbipoaagreat", sum := "636a4feb596e179102200b3381f7294e475e7337600358f8f6b3ae317db3b2d0", func := "tintype/tintypelaw29.SunBack", spec := "sunBack", inPlace := ["internal/abi.NoEscape", "internal/bytealg.MakeNoZero", "sync/atomic.LoadUint32", "(*internal/sync.Mutex).Lock", "internal/race.Disable", "sync/atomic.CompareAndSwapInt32", "internal/race.Enable", "internal/race.Acquire", "(*internal/sync.Mutex).lockSlow", "internal/sync.runtime_canSpin", "internal/sync.runtime_doSpin", "internal/sync.throw", "internal/sync.runtime_nanotime", "internal/sync.runtime_SemacquireMutex", "sync/atomic.AddInt32", "(*internal/sync.Mutex).Unlock", "internal/race.ReleaseMerge", "(*internal/sync.Mutex).unlockSlow", "internal/sync.fatal", "internal/sync.runtime_Semrelease", "sync/atomic.StoreUint32", "sync/atomic.LoadInt64", "sync/atomic.CompareAndSwapInt64"], unfollowed := true, recurses := true, plainKeys := false, apart := false, narrowed := true }
def SunBackUptoSaid : Prop := sunBackUptoRow.holds Tryz.pinned (OpenSpec.upto sunBackSpec)

end Rows
end Go.Proofs.YtboojlkncbipoaaGreat
