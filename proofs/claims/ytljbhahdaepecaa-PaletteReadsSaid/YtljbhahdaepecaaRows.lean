/-
  No cell of these rows narrows 'for every input' (looked for: loops, veiled, ifaces, maps, wideKeys, modest, calm, conditions, laid).
  DERIVED. THE GIVEN ROWS OF THIS SEAT. 4 by the template 'for every input the law returns true; each argument reads behind the call as it read before'; 0 by the template 'total and deterministic' (their statements: YtljbhahdaepecaaTotals.lean).
  GIVEN WITH THE SEED: the statements are not yours to turn. If you find one false, say at which input.
  Laid BY PROGRAM, IN A SANDBOX (cutbox-rows.mjs): the forced cells as the released guide's own fill.sh prints them over the translation fba98e551a1cf91a… (all of the seat's roots in one cut). By AI agents, Wed Nov 11 2026. No macro, syntax, notation, axiom, sorry.
-/
import Derived.Test.YtljbhahdaepecaaChecked
import GoSem.Claim
import GoSem.ClaimJoined
import GoSem.ClaimMapViews
import Derived.JoinedTies
import Derived.KernelRfl
namespace Go.Proofs.Ytljbhahdaepecaa
/- THE CELL 'sum', in the pinned program and in every row, IS THE sha256 OF THE DUMP (.gsa) THAT YtljbhahdaepecaaProg.lean LOADS. Nothing in Lean hashes anything: it is a label: what it is worth is what the hold of that sum in a sandbox is worth. -/
noncomputable def Try.pinned : Pinned := { name := "ytljbhahdaepecaa", sum := "fba98e551a1cf91adff8123ce34d568eca97562871f8a882a9cd0a8dfc69fc0c", checked := Try.checked }
namespace Rows
def none {H : Type} : Left H := { results := [], args := [] }

/-- 'tintypelaw10.PaletteEntries': WHATEVER THE INPUT: true; the input reads as it did. -/
def paletteEntriesSpec : ChangeSpec := { name := "paletteEntries", fn := fun _ => fun
  | [d1, d2] => { results := [.lit (.bool true)], args := [d1, d2] }
  | _ => none }
def paletteEntriesRow : OpenClaim := { program := "ytljbhahdaepecaa", sum := "fba98e551a1cf91adff8123ce34d568eca97562871f8a882a9cd0a8dfc69fc0c", func := "tintype/tintypelaw10.PaletteEntries", spec := "paletteEntries", unfollowed := true, recurses := true, apart := false }
def PaletteEntriesSaid : Prop := paletteEntriesRow.holds Try.pinned (OpenSpec.ofChange paletteEntriesSpec)

/-- ITS FALSE NEIGHBOUR: 'it returns false'. Refute it at one input. -/
def paletteEntriesWrong : ChangeSpec := { name := "paletteEntries", fn := fun _ => fun
  | [d1, d2] => { results := [.lit (.bool false)], args := [d1, d2] }
  | _ => none }
def PaletteEntriesWrongFalsely : Prop := paletteEntriesRow.holds Try.pinned (OpenSpec.ofChange paletteEntriesWrong)

/-- 'tintypelaw10.PaletteReads': WHATEVER THE INPUT: true; the input reads as it did. -/
def paletteReadsSpec : ChangeSpec := { name := "paletteReads", fn := fun _ => fun
  | [d1, d2, d3, d4, d5] => { results := [.lit (.bool true)], args := [d1, d2, d3, d4, d5] }
  | _ => none }
def paletteReadsRow : OpenClaim := { program := "ytljbhahdaepecaa", sum := "fba98e551a1cf91adff8123ce34d568eca97562871f8a882a9cd0a8dfc69fc0c", func := "tintype/tintypelaw10.PaletteReads", spec := "paletteReads", inPlace := ["sync/atomic.LoadUint32", "sync/atomic.LoadInt64", "sync/atomic.CompareAndSwapInt64", "sync/atomic.StoreUint32", "(*internal/sync.Mutex).Lock", "internal/race.Disable", "sync/atomic.CompareAndSwapInt32", "internal/race.Enable", "internal/race.Acquire", "(*internal/sync.Mutex).lockSlow", "internal/sync.runtime_canSpin", "internal/sync.runtime_doSpin", "internal/sync.throw", "internal/sync.runtime_nanotime", "internal/sync.runtime_SemacquireMutex", "sync/atomic.AddInt32", "(*internal/sync.Mutex).Unlock", "internal/race.ReleaseMerge", "(*internal/sync.Mutex).unlockSlow", "internal/sync.fatal", "internal/sync.runtime_Semrelease"], unfollowed := true, recurses := true, apart := false }
def PaletteReadsSaid : Prop := paletteReadsRow.holds Try.pinned (OpenSpec.ofChange paletteReadsSpec)

/-- ITS FALSE NEIGHBOUR: 'it returns false'. Refute it at one input. -/
def paletteReadsWrong : ChangeSpec := { name := "paletteReads", fn := fun _ => fun
  | [d1, d2, d3, d4, d5] => { results := [.lit (.bool false)], args := [d1, d2, d3, d4, d5] }
  | _ => none }
def PaletteReadsWrongFalsely : Prop := paletteReadsRow.holds Try.pinned (OpenSpec.ofChange paletteReadsWrong)

/-- 'tintypelaw10.PaletteNew': WHATEVER THE INPUT: true; the input reads as it did. -/
def paletteNewSpec : ChangeSpec := { name := "paletteNew", fn := fun _ => fun
  | [d1, d2] => { results := [.lit (.bool true)], args := [d1, d2] }
  | _ => none }
def paletteNewRow : OpenClaim := { program := "ytljbhahdaepecaa", sum := "fba98e551a1cf91adff8123ce34d568eca97562871f8a882a9cd0a8dfc69fc0c", func := "tintype/tintypelaw10.PaletteNew", spec := "paletteNew", inPlace := ["sync/atomic.LoadUint32", "sync/atomic.LoadInt64", "sync/atomic.CompareAndSwapInt64", "sync/atomic.StoreUint32", "(*internal/sync.Mutex).Lock", "internal/race.Disable", "sync/atomic.CompareAndSwapInt32", "internal/race.Enable", "internal/race.Acquire", "(*internal/sync.Mutex).lockSlow", "internal/sync.runtime_canSpin", "internal/sync.runtime_doSpin", "internal/sync.throw", "internal/sync.runtime_nanotime", "internal/sync.runtime_SemacquireMutex", "sync/atomic.AddInt32", "(*internal/sync.Mutex).Unlock", "internal/race.ReleaseMerge", "(*internal/sync.Mutex).unlockSlow", "internal/sync.fatal", "internal/sync.runtime_Semrelease"], unfollowed := true, recurses := true, apart := false }
def PaletteNewSaid : Prop := paletteNewRow.holds Try.pinned (OpenSpec.ofChange paletteNewSpec)

/-- ITS FALSE NEIGHBOUR: 'it returns false'. Refute it at one input. -/
def paletteNewWrong : ChangeSpec := { name := "paletteNew", fn := fun _ => fun
  | [d1, d2] => { results := [.lit (.bool false)], args := [d1, d2] }
  | _ => none }
def PaletteNewWrongFalsely : Prop := paletteNewRow.holds Try.pinned (OpenSpec.ofChange paletteNewWrong)

/-- 'tintypelaw10.PaletteNearest': WHATEVER THE INPUT: true; the input reads as it did. -/
def paletteNearestSpec : ChangeSpec := { name := "paletteNearest", fn := fun _ => fun
  | [d1, d2] => { results := [.lit (.bool true)], args := [d1, d2] }
  | _ => none }
def paletteNearestRow : OpenClaim := { program := "ytljbhahdaepecaa", sum := "fba98e551a1cf91adff8123ce34d568eca97562871f8a882a9cd0a8dfc69fc0c", func := "tintype/tintypelaw10.PaletteNearest", spec := "paletteNearest", unfollowed := true, recurses := true, apart := false }
def PaletteNearestSaid : Prop := paletteNearestRow.holds Try.pinned (OpenSpec.ofChange paletteNearestSpec)

/-- ITS FALSE NEIGHBOUR: 'it returns false'. Refute it at one input. -/
def paletteNearestWrong : ChangeSpec := { name := "paletteNearest", fn := fun _ => fun
  | [d1, d2] => { results := [.lit (.bool false)], args := [d1, d2] }
  | _ => none }
def PaletteNearestWrongFalsely : Prop := paletteNearestRow.holds Try.pinned (OpenSpec.ofChange paletteNearestWrong)

/- THE SECOND FORM. 'bulk': how many values and letters a reading holds, each counted each time it is reached (what is shared counts as often as it is met; a slice's spare places count too). A statement '..UptoSaid' is the law's where the arguments, and the package variables that the reading takes, are together of bulk at most 1048576: NARROWER than '..Said'. Prove '..Said' where nothing that the law and all that it calls make is longer than what came in: it says more and counts as full. Else prove '..UptoSaid'. A law counts once. -/
mutual
def uptoBulk {H : Type} : DataW H → Nat
  | .lit (.string bytes) => bytes.length + 1
  | .lit _ => 1
  | .nil => 1
  | .ptr d => uptoBulk d + 1
  | .slice elems spare => uptoBulkAll elems + uptoBulkAll spare + 1
  | .agg parts => uptoBulkAll parts + 1
  | .iface _ d => uptoBulk d + 1
  | .map entries => uptoBulkEntries entries + 1
  | .held _ => 1
def uptoBulkAll {H : Type} : List (DataW H) → Nat
  | [] => 0
  | d :: r => uptoBulk d + uptoBulkAll r
def uptoBulkEntries {H : Type} : List (Lit × DataW H) → Nat
  | [] => 0
  | x :: r => uptoBulkEntry x + uptoBulkEntries r
def uptoBulkEntry {H : Type} : Lit × DataW H → Nat
  | (.string bytes, d) => bytes.length + uptoBulk d + 1
  | (_, d) => uptoBulk d + 1
 end
def uptoSmall : (H : Type) → List (DataW H) → Bool := fun _ ds => decide (uptoBulkAll ds ≤ 1048576)
def OpenSpec.upto (s : _root_.Go.ChangeSpec) : _root_.Go.OpenSpec := { _root_.Go.OpenSpec.ofChange s with cond := some uptoSmall }

/-- 'tintypelaw10.PaletteEntries', WHERE WHAT IT READS IS OF BULK AT MOST 1048576: true; the input reads as it did. -/
def paletteEntriesUptoRow : OpenClaim := { program := "ytljbhahdaepecaa", sum := "fba98e551a1cf91adff8123ce34d568eca97562871f8a882a9cd0a8dfc69fc0c", func := "tintype/tintypelaw10.PaletteEntries", spec := "paletteEntries", unfollowed := true, recurses := true, apart := false, narrowed := true }
def PaletteEntriesUptoSaid : Prop := paletteEntriesUptoRow.holds Try.pinned (OpenSpec.upto paletteEntriesSpec)

/-- 'tintypelaw10.PaletteReads', WHERE WHAT IT READS IS OF BULK AT MOST 1048576: true; the input reads as it did. -/
def paletteReadsUptoRow : OpenClaim := { program := "ytljbhahdaepecaa", sum := "fba98e551a1cf91adff8123ce34d568eca97562871f8a882a9cd0a8dfc69fc0c", func := "tintype/tintypelaw10.PaletteReads", spec := "paletteReads", inPlace := ["sync/atomic.LoadUint32", "sync/atomic.LoadInt64", "sync/atomic.CompareAndSwapInt64", "sync/atomic.StoreUint32", "(*internal/sync.Mutex).Lock", "internal/race.Disable", "sync/atomic.CompareAndSwapInt32", "internal/race.Enable", "internal/race.Acquire", "(*internal/sync.Mutex).lockSlow", "internal/sync.runtime_canSpin", "internal/sync.runtime_doSpin", "internal/sync.throw", "internal/sync.runtime_nanotime", "internal/sync.runtime_SemacquireMutex", "sync/atomic.AddInt32", "(*internal/sync.Mutex).Unlock", "internal/race.ReleaseMerge", "(*internal/sync.Mutex).unlockSlow", "internal/sync.fatal", "internal/sync.runtime_Semrelease"], unfollowed := true, recurses := true, apart := false, narrowed := true }
def PaletteReadsUptoSaid : Prop := paletteReadsUptoRow.holds Try.pinned (OpenSpec.upto paletteReadsSpec)

/-- 'tintypelaw10.PaletteNew', WHERE WHAT IT READS IS OF BULK AT MOST 1048576: true; the input reads as it did. -/
def paletteNewUptoRow : OpenClaim := { program := "ytljbhahdaepecaa", sum := "fba98e551a1cf91adff8123ce34d568eca97562871f8a882a9cd0a8dfc69fc0c", func := "tintype/tintypelaw10.PaletteNew", spec := "paletteNew", inPlace := ["sync/atomic.LoadUint32", "sync/atomic.LoadInt64", "sync/atomic.CompareAndSwapInt64", "sync/atomic.StoreUint32", "(*internal/sync.Mutex).Lock", "internal/race.Disable", "sync/atomic.CompareAndSwapInt32", "internal/race.Enable", "internal/race.Acquire", "(*internal/sync.Mutex).lockSlow", "internal/sync.runtime_canSpin", "internal/sync.runtime_doSpin", "internal/sync.throw", "internal/sync.runtime_nanotime", "internal/sync.runtime_SemacquireMutex", "sync/atomic.AddInt32", "(*internal/sync.Mutex).Unlock", "internal/race.ReleaseMerge", "(*internal/sync.Mutex).unlockSlow", "internal/sync.fatal", "internal/sync.runtime_Semrelease"], unfollowed := true, recurses := true, apart := false, narrowed := true }
def PaletteNewUptoSaid : Prop := paletteNewUptoRow.holds Try.pinned (OpenSpec.upto paletteNewSpec)

/-- 'tintypelaw10.PaletteNearest', WHERE WHAT IT READS IS OF BULK AT MOST 1048576: true; the input reads as it did. -/
def paletteNearestUptoRow : OpenClaim := { program := "ytljbhahdaepecaa", sum := "fba98e551a1cf91adff8123ce34d568eca97562871f8a882a9cd0a8dfc69fc0c", func := "tintype/tintypelaw10.PaletteNearest", spec := "paletteNearest", unfollowed := true, recurses := true, apart := false, narrowed := true }
def PaletteNearestUptoSaid : Prop := paletteNearestUptoRow.holds Try.pinned (OpenSpec.upto paletteNearestSpec)

end Rows
end Go.Proofs.Ytljbhahdaepecaa
