/- Package ledger: a ledger in memory, and the Once of the standard library by whose first call the first refusal is kept. -/
import Derived.Test.YtfhcefglefkakaaGreatDoorLed1
import Derived.Defers
import Derived.Laws.Pointers
import Derived.RegionTactic
import Derived.RegionCalls
import Derived.Below
namespace Go.Proofs.YtfhcefglefkakaaGreatDoor.Le
open Go.ChangeShapes Go.WideShapes Go.ChangeAt Go.RowKit
set_option linter.unusedVariables false

/-- What a ledger's thirteen cells hold. -/
structure LS where
  w : Int
  h : Int
  mb : Int
  mw : Int
  by_ : Int
  pk : Int
  st : Int
  d : Int
  lk : Int
  se : Int
  r : Int
  a : Int
  br : Int

def LS.cells (S : LS) : Array Value := #[.int .i64 S.w, .int .i64 S.h, .int .i64 S.mb, .int .i64 S.mw, .int .i64 S.by_, .int .i64 S.pk, .int .i64 S.st, .int .u32 S.d, .int .i32 S.lk, .int .u32 S.se, .int .i64 S.r, .int .i64 S.a, .int .u32 S.br]

/-- Block b is a ledger that holds S. -/
def Led (b : Nat) (S : LS) (w : World) : Prop := w.heap[b]? = some (.cells S.cells 74 (0, 0))

theorem blk_lt {w : World} {b : Nat} {o : Obj} (h : w.heap[b]? = some o) : b < w.heap.size := by
  rcases Nat.lt_or_ge b w.heap.size with h' | h'
  · exact h'
  · simp [Array.getElem?_eq_none h'] at h
theorem blk_set {w : World} {b : Nat} {C : Array Value} {t : TypeId} (h : w.heap[b]? = some (.cells C t (0, 0))) (o : Nat) (v : Value) :
    (w.setCell ⟨b, o, none⟩ v).heap[b]? = some (.cells (C.setIfInBounds o v) t (0, 0)) := by
  have hlt := blk_lt h
  have h' : w.heap[b] = .cells C t (0, 0) := by simpa [Array.getElem?_eq_getElem hlt] using h
  show (w.heap.modify b _)[b]? = _
  rw [Array.getElem?_eq_getElem (by simpa using hlt), Array.getElem_modify_self, h']
  rfl
theorem blk_cell {w : World} {b : Nat} {C : Array Value} {t : TypeId} (h : w.heap[b]? = some (.cells C t (0, 0))) (o : Nat) : w.cell? ⟨b, o, none⟩ = C[o]? := by
  simp [World.cell?, h]
theorem blk_free {w : World} {b : Nat} {C : Array Value} {t : TypeId} (h : w.heap[b]? = some (.cells C t (0, 0))) (o : Nat) : w.frozen? ⟨b, o, none⟩ = false := by
  simp [World.frozen?, h]

theorem Led.lt {b : Nat} {S : LS} {w : World} (h : Led b S w) : b < w.heap.size := blk_lt h
theorem Led.free {b : Nat} {S : LS} {w : World} (h : Led b S w) (o : Nat) : w.frozen? ⟨b, o, none⟩ = false := blk_free h o
theorem Led.c {b : Nat} {S : LS} {w : World} (h : Led b S w) (o : Nat) : w.cell? ⟨b, o, none⟩ = S.cells[o]? := blk_cell h o
theorem Led.set {b : Nat} {S : LS} {w : World} (h : Led b S w) {S' : LS} (o : Nat) (v : Value) (e : S.cells.setIfInBounds o v = S'.cells) : Led b S' (w.setCell ⟨b, o, none⟩ v) := by
  have := blk_set h o v
  rw [e] at this
  exact this
theorem Led.alloc {b : Nat} {S : LS} {w : World} (h : Led b S w) (o : Obj) : Led b S (w.alloc o) := (Below.heap_alloc w o b h.lt).trans h
theorem Led.drew {b : Nat} {S : LS} {w : World} (h : Led b S w) : Led b S w.drew := h
theorem Led.grown {b : Nat} {S : LS} {w w' : World} {r : Option Nat} (h : Led b S w) (hg : w.grownBy w' r) (hb : some b ≠ r) : Led b S w' := (hg.block b h.lt hb).trans h

theorem gb_refl (w : World) (r : Option Nat) : w.grownBy w r := ⟨rfl, rfl, rfl, Nat.le_refl _, fun _ _ _ => rfl⟩
theorem gb_trans {a b c : World} {r : Option Nat} (h : a.grownBy b r) (k : b.grownBy c r) : a.grownBy c r :=
  ⟨k.os.trans h.os, k.tape.trans h.tape, k.output.trans h.output, Nat.le_trans h.size k.size, fun i hi hr => (k.block i (Nat.lt_of_lt_of_le hi h.size) hr).trans (h.block i hi hr)⟩
theorem gb_set (w : World) (b o : Nat) (v : Value) : w.grownBy (w.setCell ⟨b, o, none⟩ v) (some b) :=
  ⟨rfl, rfl, rfl, by simp [World.setCell], fun k hk hr => Below.heap_setCell _ _ _ _ (fun e => hr (by rw [e]))⟩
theorem gb_drew (w : World) (r : Option Nat) : w.grownBy w.drew r := ⟨rfl, rfl, rfl, Nat.le_refl _, fun _ _ _ => rfl⟩
theorem gb_any {a b : World} (h : a.grownBy b none) (r : Option Nat) : a.grownBy b r := ⟨h.os, h.tape, h.output, h.size, fun k hk _ => h.block k hk (by simp)⟩

/-- (*atomic.Bool).Store(true). -/
theorem storeB (a : Addr) (x : Value) (w : World) (hs : a.spot = none) (hc : w.cell? a = some x) (hz : w.frozen? a = false) :
    Calls Tryz.prog 179 #[.pointer (some a), .bool true] w fun e w' => e = .returned (.tuple #[]) ∧ w.drew.setCell a (.int .u32 1) = w' := by
  obtain ⟨b, o, s⟩ := a
  simp only at hs
  subst hs
  have hc' : w.drew.cell? ⟨b, o, none⟩ = some x := by go_simp
  have hz' : w.drew.frozen? ⟨b, o, none⟩ = false := by go_simp
  have hst := run_call_store (P := Tryz.prog) Tryz.func184 (by kernel_rfl) (by kernel_rfl) (by kernel_rfl) (by kernel_rfl) (k := .u32) (y := 1) hc' hz'
  go_enter Tryz.func179, Tryz.ntmps179
  go_wp2
  go_region_calls
  all_goals (go_end0; exact ⟨rfl, rfl⟩)

theorem storeB_d (a : Addr) (x : Value) (u : FrameMode) (w : World) (hs : a.spot = none) (hc : w.cell? a = some x) (hz : w.frozen? a = false) :
    CallsD Tryz.prog 179 #[.pointer (some a), .bool true] u w fun e u' w' => u' = u ∧ (e = .returned (.tuple #[]) ∧ w.drew.setCell a (.int .u32 1) = w') := by
  obtain ⟨b, o, s⟩ := a
  simp only at hs
  subst hs
  have hc' : w.drew.cell? ⟨b, o, none⟩ = some x := by go_simp
  have hz' : w.drew.frozen? ⟨b, o, none⟩ = false := by go_simp
  have hst := run_call_store (P := Tryz.prog) Tryz.func184 (by kernel_rfl) (by kernel_rfl) (by kernel_rfl) (by kernel_rfl) (k := .u32) (y := 1) hc' hz'
  go_enter_d Tryz.func179, Tryz.ntmps179
  go_wp2
  go_region_calls
  all_goals (go_end0; exact ⟨rfl, rfl⟩)

theorem disable (w : World) : (callFunc 190 #[]).run Tryz.prog w = .ok (.value (.tuple #[])) w := run_call_mark0 Tryz.func190 (by kernel_rfl) (by kernel_rfl) (by kernel_rfl) .disable (by kernel_rfl) w
theorem enable (w : World) : (callFunc 192 #[]).run Tryz.prog w = .ok (.value (.tuple #[])) w := run_call_mark0 Tryz.func192 (by kernel_rfl) (by kernel_rfl) (by kernel_rfl) .enable (by kernel_rfl) w
theorem acquire (a : Addr) (w : World) : (callFunc 193 #[.pointer (some a)]).run Tryz.prog w = .ok (.value (.tuple #[])) w := run_call_marked Tryz.func193 (by kernel_rfl) (by kernel_rfl) (by kernel_rfl) .acquire (by kernel_rfl) a w
theorem releaseMerge (a : Addr) (w : World) : (callFunc 195 #[.pointer (some a)]).run Tryz.prog w = .ok (.value (.tuple #[])) w := run_call_marked Tryz.func195 (by kernel_rfl) (by kernel_rfl) (by kernel_rfl) .releaseMerge (by kernel_rfl) a w

set_option maxRecDepth 100000 in
/-- (*sync.Mutex).Unlock, deferred, the lock held and nobody waiting. -/
theorem unlock_d (a : Addr) (u : FrameMode) (w : World) (hc : w.cell? a = some (.int .i32 1)) (hz : w.frozen? a = false) :
    CallsD Tryz.prog 187 #[.pointer (some a)] u w fun e u' w' => u' = u ∧ (e = .returned (.tuple #[]) ∧ w.setCell a (.int .i32 0) = w') := by
  have hd := disable
  have he := enable
  have hr := releaseMerge
  have hadd := run_call_add (P := Tryz.prog) Tryz.func196 (by kernel_rfl) (by kernel_rfl) (by kernel_rfl) .i32 (by kernel_rfl) (y := -1) (s := 0) hc hz (by simp [go_sem]; rfl)
  have hcv := run_convert_to_unsafe (P := Tryz.prog) (src := 208) (dst := 212) Tryz.underlying208 Tryz.underlying212 (by kernel_rfl) hc
  go_enter_d Tryz.func187, Tryz.ntmps187
  go_wp2
  go_end0
  go_wp2
  go_end0
  exact ⟨rfl, rfl⟩

set_option maxRecDepth 100000 in
/-- (*sync.Mutex).Lock, the lock free. -/
theorem lock_free (a : Addr) (w : World) (hc : w.cell? a = some (.int .i32 0)) (hz : w.frozen? a = false) :
    Calls Tryz.prog 186 #[.pointer (some a)] w fun e w' => e = .returned (.tuple #[]) ∧ w.setCell a (.int .i32 1) = w' := by
  have hd := disable
  have he := enable
  have ha := acquire
  have hcas := run_call_cas_hit (P := Tryz.prog) Tryz.func191 (by kernel_rfl) (by kernel_rfl) (by kernel_rfl) .i32 (by kernel_rfl) (y := 1) hc hz
  have hc' : (w.setCell a (.int .i32 1)).cell? a = some (.int .i32 1) := World.cell?_setCell_same w a _ hc
  have hcv := run_convert_to_unsafe (P := Tryz.prog) (src := 208) (dst := 212) Tryz.underlying208 Tryz.underlying212 (by kernel_rfl) hc'
  go_enter Tryz.func186, Tryz.ntmps186
  go_wp2
  first | go_end0 | (simp only [Exit.inBlock, Exit.then]; refine bodyPost_ret (results_none rfl _ _ _) rfl ?_) | refine bodyPost_ret (results_none rfl _ _ _) rfl ?_
  go_wp2
  go_end0
  exact ⟨rfl, rfl⟩

end Go.Proofs.YtfhcefglefkakaaGreatDoor.Le
