/- Texts of one kind, one behind the other: Led2, Led3. -/
import Derived.Below
import Derived.Defers
import Derived.Laws.Pointers
import Derived.RegionCalls
import Derived.RegionTactic
import Derived.Test.YtmhghkgcfgacdaaGreatG04
/- Package ledger: a ledger in memory, and the Once of the standard library by whose first call the first refusal is kept. -/
namespace Go.Proofs.YtmhghkgcfgacdaaGreat.Le
open Go.ChangeShapes Go.WideShapes Go.ChangeAt Go.RowKit
set_option linter.unusedVariables false

/-- What a ledger's thirteen cells hold. -/
structure LS where
  w : Int
  h : Int
  mb : Int
  mw : Int
  by_ : Int
  pk : Int
  st : Int
  d : Int
  lk : Int
  se : Int
  r : Int
  a : Int
  br : Int

def LS.cells (S : LS) : Array Value := #[.int .i64 S.w, .int .i64 S.h, .int .i64 S.mb, .int .i64 S.mw, .int .i64 S.by_, .int .i64 S.pk, .int .i64 S.st, .int .u32 S.d, .int .i32 S.lk, .int .u32 S.se, .int .i64 S.r, .int .i64 S.a, .int .u32 S.br]

/-- Block b is a ledger that holds S. -/
def Led (b : Nat) (S : LS) (w : World) : Prop := w.heap[b]? = some (.cells S.cells 90 (0, 0))

theorem blk_lt {w : World} {b : Nat} {o : Obj} (h : w.heap[b]? = some o) : b < w.heap.size := by
  rcases Nat.lt_or_ge b w.heap.size with h' | h'
  · exact h'
  · simp [Array.getElem?_eq_none h'] at h
theorem blk_set {w : World} {b : Nat} {C : Array Value} {t : TypeId} (h : w.heap[b]? = some (.cells C t (0, 0))) (o : Nat) (v : Value) :
    (w.setCell ⟨b, o, none⟩ v).heap[b]? = some (.cells (C.setIfInBounds o v) t (0, 0)) := by
  have hlt := blk_lt h
  have h' : w.heap[b] = .cells C t (0, 0) := by simpa [Array.getElem?_eq_getElem hlt] using h
  show (w.heap.modify b _)[b]? = _
  rw [Array.getElem?_eq_getElem (by simpa using hlt), Array.getElem_modify_self, h']
  rfl
theorem blk_cell {w : World} {b : Nat} {C : Array Value} {t : TypeId} (h : w.heap[b]? = some (.cells C t (0, 0))) (o : Nat) : w.cell? ⟨b, o, none⟩ = C[o]? := by
  simp [World.cell?, h]
theorem blk_free {w : World} {b : Nat} {C : Array Value} {t : TypeId} (h : w.heap[b]? = some (.cells C t (0, 0))) (o : Nat) : w.frozen? ⟨b, o, none⟩ = false := by
  simp [World.frozen?, h]

theorem Led.lt {b : Nat} {S : LS} {w : World} (h : Led b S w) : b < w.heap.size := blk_lt h
theorem Led.free {b : Nat} {S : LS} {w : World} (h : Led b S w) (o : Nat) : w.frozen? ⟨b, o, none⟩ = false := blk_free h o
theorem Led.c {b : Nat} {S : LS} {w : World} (h : Led b S w) (o : Nat) : w.cell? ⟨b, o, none⟩ = S.cells[o]? := blk_cell h o
theorem Led.set {b : Nat} {S : LS} {w : World} (h : Led b S w) {S' : LS} (o : Nat) (v : Value) (e : S.cells.setIfInBounds o v = S'.cells) : Led b S' (w.setCell ⟨b, o, none⟩ v) := by
  have := blk_set h o v
  rw [e] at this
  exact this
theorem Led.alloc {b : Nat} {S : LS} {w : World} (h : Led b S w) (o : Obj) : Led b S (w.alloc o) := (Below.heap_alloc w o b h.lt).trans h
theorem Led.drew {b : Nat} {S : LS} {w : World} (h : Led b S w) : Led b S w.drew := h
theorem Led.grown {b : Nat} {S : LS} {w w' : World} {r : Option Nat} (h : Led b S w) (hg : w.grownBy w' r) (hb : some b ≠ r) : Led b S w' := (hg.block b h.lt hb).trans h

theorem gb_refl (w : World) (r : Option Nat) : w.grownBy w r := ⟨rfl, rfl, rfl, Nat.le_refl _, fun _ _ _ => rfl⟩
theorem gb_trans {a b c : World} {r : Option Nat} (h : a.grownBy b r) (k : b.grownBy c r) : a.grownBy c r :=
  ⟨k.os.trans h.os, k.tape.trans h.tape, k.output.trans h.output, Nat.le_trans h.size k.size, fun i hi hr => (k.block i (Nat.lt_of_lt_of_le hi h.size) hr).trans (h.block i hi hr)⟩
theorem gb_set (w : World) (b o : Nat) (v : Value) : w.grownBy (w.setCell ⟨b, o, none⟩ v) (some b) :=
  ⟨rfl, rfl, rfl, by simp [World.setCell], fun k hk hr => Below.heap_setCell _ _ _ _ (fun e => hr (by rw [e]))⟩
theorem gb_drew (w : World) (r : Option Nat) : w.grownBy w.drew r := ⟨rfl, rfl, rfl, Nat.le_refl _, fun _ _ _ => rfl⟩
theorem gb_any {a b : World} (h : a.grownBy b none) (r : Option Nat) : a.grownBy b r := ⟨h.os, h.tape, h.output, h.size, fun k hk _ => h.block k hk (by simp)⟩

/-- (*atomic.Bool).Store(true). -/
theorem storeB (a : Addr) (x : Value) (w : World) (hs : a.spot = none) (hc : w.cell? a = some x) (hz : w.frozen? a = false) :
    Calls Tryz.prog 91 #[.pointer (some a), .bool true] w fun e w' => e = .returned (.tuple #[]) ∧ w.drew.setCell a (.int .u32 1) = w' := by
  obtain ⟨b, o, s⟩ := a
  simp only at hs
  subst hs
  have hc' : w.drew.cell? ⟨b, o, none⟩ = some x := by go_simp
  have hz' : w.drew.frozen? ⟨b, o, none⟩ = false := by go_simp
  have hst := run_call_store (P := Tryz.prog) Tryz.func101 (by kernel_rfl) (by kernel_rfl) (by kernel_rfl) (by kernel_rfl) (k := .u32) (y := 1) hc' hz'
  go_enter Tryz.func91, Tryz.ntmps91
  go_wp2
  go_region_calls
  all_goals (go_end0; exact ⟨rfl, rfl⟩)

theorem storeB_d (a : Addr) (x : Value) (u : FrameMode) (w : World) (hs : a.spot = none) (hc : w.cell? a = some x) (hz : w.frozen? a = false) :
    CallsD Tryz.prog 91 #[.pointer (some a), .bool true] u w fun e u' w' => u' = u ∧ (e = .returned (.tuple #[]) ∧ w.drew.setCell a (.int .u32 1) = w') := by
  obtain ⟨b, o, s⟩ := a
  simp only at hs
  subst hs
  have hc' : w.drew.cell? ⟨b, o, none⟩ = some x := by go_simp
  have hz' : w.drew.frozen? ⟨b, o, none⟩ = false := by go_simp
  have hst := run_call_store (P := Tryz.prog) Tryz.func101 (by kernel_rfl) (by kernel_rfl) (by kernel_rfl) (by kernel_rfl) (k := .u32) (y := 1) hc' hz'
  go_enter_d Tryz.func91, Tryz.ntmps91
  go_wp2
  go_region_calls
  all_goals (go_end0; exact ⟨rfl, rfl⟩)

theorem disable (w : World) : (callFunc 117 #[]).run Tryz.prog w = .ok (.value (.tuple #[])) w := run_call_mark0 Tryz.func117 (by kernel_rfl) (by kernel_rfl) (by kernel_rfl) .disable (by kernel_rfl) w
theorem enable (w : World) : (callFunc 119 #[]).run Tryz.prog w = .ok (.value (.tuple #[])) w := run_call_mark0 Tryz.func119 (by kernel_rfl) (by kernel_rfl) (by kernel_rfl) .enable (by kernel_rfl) w
theorem acquire (a : Addr) (w : World) : (callFunc 120 #[.pointer (some a)]).run Tryz.prog w = .ok (.value (.tuple #[])) w := run_call_marked Tryz.func120 (by kernel_rfl) (by kernel_rfl) (by kernel_rfl) .acquire (by kernel_rfl) a w
theorem releaseMerge (a : Addr) (w : World) : (callFunc 122 #[.pointer (some a)]).run Tryz.prog w = .ok (.value (.tuple #[])) w := run_call_marked Tryz.func122 (by kernel_rfl) (by kernel_rfl) (by kernel_rfl) .releaseMerge (by kernel_rfl) a w

set_option maxRecDepth 100000 in
/-- (*sync.Mutex).Unlock, deferred, the lock held and nobody waiting. -/
theorem unlock_d (a : Addr) (u : FrameMode) (w : World) (hc : w.cell? a = some (.int .i32 1)) (hz : w.frozen? a = false) :
    CallsD Tryz.prog 108 #[.pointer (some a)] u w fun e u' w' => u' = u ∧ (e = .returned (.tuple #[]) ∧ w.setCell a (.int .i32 0) = w') := by
  have hd := disable
  have he := enable
  have hr := releaseMerge
  have hadd := run_call_add (P := Tryz.prog) Tryz.func123 (by kernel_rfl) (by kernel_rfl) (by kernel_rfl) .i32 (by kernel_rfl) (y := -1) (s := 0) hc hz (by simp [go_sem]; rfl)
  have hcv := run_convert_to_unsafe (P := Tryz.prog) (src := 180) (dst := 152) Tryz.underlying180 Tryz.underlying152 (by kernel_rfl) hc
  go_enter_d Tryz.func108, Tryz.ntmps108
  go_wp2
  go_end0
  go_wp2
  go_end0
  exact ⟨rfl, rfl⟩

set_option maxRecDepth 100000 in
/-- (*sync.Mutex).Lock, the lock free. -/
theorem lock_free (a : Addr) (w : World) (hc : w.cell? a = some (.int .i32 0)) (hz : w.frozen? a = false) :
    Calls Tryz.prog 107 #[.pointer (some a)] w fun e w' => e = .returned (.tuple #[]) ∧ w.setCell a (.int .i32 1) = w' := by
  have hd := disable
  have he := enable
  have ha := acquire
  have hcas := run_call_cas_hit (P := Tryz.prog) Tryz.func118 (by kernel_rfl) (by kernel_rfl) (by kernel_rfl) .i32 (by kernel_rfl) (y := 1) hc hz
  have hc' : (w.setCell a (.int .i32 1)).cell? a = some (.int .i32 1) := World.cell?_setCell_same w a _ hc
  have hcv := run_convert_to_unsafe (P := Tryz.prog) (src := 180) (dst := 152) Tryz.underlying180 Tryz.underlying152 (by kernel_rfl) hc'
  go_enter Tryz.func107, Tryz.ntmps107
  go_wp2
  first | go_end0 | (simp only [Exit.inBlock, Exit.then]; refine bodyPost_ret (results_none rfl _ _ _) rfl ?_) | refine bodyPost_ret (results_none rfl _ _ _) rfl ?_
  go_wp2
  go_end0
  exact ⟨rfl, rfl⟩

end Go.Proofs.YtmhghkgcfgacdaaGreat.Le

/- Package ledger: the first refusal is kept. -/
namespace Go.Proofs.YtmhghkgcfgacdaaGreat.Le
open Go.ChangeShapes Go.WideShapes Go.ChangeAt Go.RowKit
set_option linter.unusedVariables false

theorem keep_calls (b : Nat) (S : LS) (pr pa pl : Nat) (r a : Int) (w : World) (h : Led b S w) (nr : ¬ b = pr) (na : ¬ b = pa) (nl : ¬ b = pl)
    (hr : w.cell? ⟨pr, 0, none⟩ = some (.int .i64 r)) (ha : w.cell? ⟨pa, 0, none⟩ = some (.int .i64 a)) (hl : w.cell? ⟨pl, 0, none⟩ = some (.pointer (some ⟨b, 0, none⟩))) :
    Calls Tryz.prog 90 #[.pointer (some ⟨pr, 0, none⟩), .pointer (some ⟨pa, 0, none⟩), .pointer (some ⟨pl, 0, none⟩)] w fun e w' => e = .returned (.tuple #[]) ∧ Led b { S with r := r, a := a, br := 1 } w' ∧ w.grownBy w' (some b) := by
  have h12 := h.c 12
  have h10 := h.c 10
  have h11 := h.c 11
  simp only [LS.cells, List.getElem?_toArray, List.getElem?_cons_succ, List.getElem?_cons_zero] at h10 h11 h12
  have f10 := h.free 10
  have f11 := h.free 11
  have f12 := h.free 12
  have H := Lib.hid h
  clear h
  go_enter Tryz.func90, Tryz.ntmps90
  have e1 : Led b { S with r := r, a := a } ((w.setCell ⟨b, 10, none⟩ (.int .i64 r)).setCell ⟨b, 11, none⟩ (.int .i64 a)) :=
    Led.set (Led.set (S' := { S with r := r }) H.out 10 _ (by simp [LS.cells])) 11 _ (by simp [LS.cells])
  have E1 := Lib.hid e1
  clear e1
  go_wp2_with fail
  refine (storeB ⟨b, 12, none⟩ (.int .u32 S.br) _ rfl ((E1.out.c 12).trans (by simp [LS.cells])) (E1.out.free 12)).mono ?_
  rintro e w' ⟨rfl, rfl⟩
  go_wp2
  go_end0
  refine ⟨rfl, ?_, ?_⟩
  · exact Led.set E1.out.drew 12 _ (by simp [LS.cells])
  · exact gb_trans (gb_trans (gb_trans (gb_set _ _ _ _) (gb_set _ _ _ _)) (gb_drew _ _)) (gb_set _ _ _ _)

/-- The Once's slow way, not yet done and its lock free. -/
theorem slow_calls (b : Nat) (S : LS) (pr pa pl : Nat) (r a : Int) (w : World) (h : Led b S w) (nr : ¬ b = pr) (na : ¬ b = pa) (nl : ¬ b = pl) (hd : S.d = 0) (hk : S.lk = 0)
    (hr : w.cell? ⟨pr, 0, none⟩ = some (.int .i64 r)) (ha : w.cell? ⟨pa, 0, none⟩ = some (.int .i64 a)) (hl : w.cell? ⟨pl, 0, none⟩ = some (.pointer (some ⟨b, 0, none⟩))) :
    Calls Tryz.prog 97 #[.pointer (some ⟨b, 7, none⟩), .func (.func 90) #[] #[.pointer (some ⟨pr, 0, none⟩), .pointer (some ⟨pa, 0, none⟩), .pointer (some ⟨pl, 0, none⟩)]] w
      fun e w' => e = .returned (.tuple #[]) ∧ Led b { S with r := r, a := a, br := 1, d := 1 } w' ∧ w.grownBy w' (some b) := by
  have L1 : Led b { S with lk := 1 } (w.setCell ⟨b, 8, none⟩ (.int .i32 1)) := Led.set h 8 _ (by simp [LS.cells])
  have g1 := gb_set w b 8 (.int .i32 1)
  have cr := g1.cell hr (by simpa using fun e => nr e.symm)
  have ca := g1.cell ha (by simpa using fun e => na e.symm)
  have cl := g1.cell hl (by simpa using fun e => nl e.symm)
  have c0 : w.cell? ⟨b, 8, none⟩ = some (.int .i32 0) := (h.c 8).trans (by simp [LS.cells, hk])
  have c1 : (w.setCell ⟨b, 8, none⟩ (.int .i32 1)).cell? ⟨b, 7, none⟩ = some (.int .u32 0) := (L1.c 7).trans (by simp [LS.cells, hd])
  have K1 := Lib.hid (lock_free ⟨b, 8, none⟩ w c0 (h.free 8))
  have K2 := Lib.hid (loadB ⟨b, 7, none⟩ 0 _ c1 rfl)
  have K3 := Lib.hid (keep_calls b _ pr pa pl r a _ L1 nr na nl cr ca cl)
  have hnot : ∀ (x : Bool) (w : World), (Op.unary .not (.bool x)).run Tryz.prog w = .ok (.bool (!x)) w := fun _ _ => rfl
  have HK := Lib.hid hk
  clear hd hk cr ca cl c0 c1 hr ha hl h L1
  have G1 := Lib.hid g1
  clear g1
  go_enter_defers Tryz.func97, Tryz.ntmps97
  go_wp2_with (first | (go_at_call 107; refine K1.out.mono ?_; rintro e w' ⟨rfl, rfl⟩) | (go_at_call 89; refine K2.out.mono ?_; rintro e w' ⟨rfl, rfl⟩))
  refine K3.out.mono ?_
  rintro e w2 ⟨rfl, L2, g2⟩
  have L2' := Lib.hid L2
  have g2' := Lib.hid g2
  clear L2 g2
  go_wp2
  refine leaves_cons (f := 91) (args := #[.pointer (some ⟨b, 7, none⟩), .bool true]) (by simp) (by simp [go_sem]) ?_
  refine (storeB_d ⟨b, 7, none⟩ (.int .u32 S.d) .returning _ rfl ((L2'.out.c 7).trans (by simp [LS.cells])) (L2'.out.free 7)).mono ?_
  rintro e u' w'' ⟨rfl, rfl, rfl⟩
  have L3 : Led b { S with lk := 1, r := r, a := a, br := 1, d := 1 } (w2.drew.setCell ⟨b, 7, none⟩ (.int .u32 1)) := Led.set L2'.out.drew 7 _ (by simp [LS.cells])
  refine leaves_cons (f := 108) (args := #[.pointer (some ⟨b, 8, none⟩)]) (by simp [settle]) (by simp [go_sem]) ?_
  refine (unlock_d ⟨b, 8, none⟩ _ _ ((L3.c 8).trans (by simp [LS.cells])) (L3.free 8)).mono ?_
  rintro e u' w'' ⟨rfl, rfl, rfl⟩
  have L4 : Led b { S with r := r, a := a, br := 1, d := 1, lk := 0 } ((w2.drew.setCell ⟨b, 7, none⟩ (.int .u32 1)).setCell ⟨b, 8, none⟩ (.int .i32 0)) := Led.set L3 8 _ (by simp [LS.cells])
  have g4 := gb_trans (gb_trans (gb_trans (gb_trans G1.out g2'.out) (gb_drew _ _)) (gb_set _ b 7 (.int .u32 1))) (gb_set _ b 8 (.int .i32 0))
  have e0 : S.lk = 0 := HK.out
  rw [show ({ S with r := r, a := a, br := 1, d := 1, lk := 0 } : LS) = { S with r := r, a := a, br := 1, d := 1 } from by rw [← e0]] at L4
  simp [Leaves, settle, results, Tryz.results97]
  exact ⟨L4, g4⟩

/-- Do, not yet done. -/
theorem do_calls (b : Nat) (S : LS) (pr pa pl : Nat) (r a : Int) (w : World) (h : Led b S w) (nr : ¬ b = pr) (na : ¬ b = pa) (nl : ¬ b = pl) (hd : S.d = 0) (hk : S.lk = 0)
    (hr : w.cell? ⟨pr, 0, none⟩ = some (.int .i64 r)) (ha : w.cell? ⟨pa, 0, none⟩ = some (.int .i64 a)) (hl : w.cell? ⟨pl, 0, none⟩ = some (.pointer (some ⟨b, 0, none⟩))) :
    Calls Tryz.prog 82 #[.pointer (some ⟨b, 7, none⟩), .func (.func 90) #[] #[.pointer (some ⟨pr, 0, none⟩), .pointer (some ⟨pa, 0, none⟩), .pointer (some ⟨pl, 0, none⟩)]] w
      fun e w' => e = .returned (.tuple #[]) ∧ Led b { S with r := r, a := a, br := 1, d := 1 } w' ∧ w.grownBy w' (some b) := by
  have K1 := Lib.hid (slow_calls b S pr pa pl r a w h nr na nl hd hk hr ha hl)
  have c1 : w.cell? ⟨b, 7, none⟩ = some (.int .u32 0) := (h.c 7).trans (by simp [LS.cells, hd])
  have K2 := Lib.hid (loadB ⟨b, 7, none⟩ 0 _ c1 rfl)
  have hnot : ∀ (x : Bool) (w : World), (Op.unary .not (.bool x)).run Tryz.prog w = .ok (.bool (!x)) w := fun _ _ => rfl
  clear h hd hk hr ha hl c1
  go_enter Tryz.func82, Tryz.ntmps82
  go_wp2_with (go_at_call 89; refine K2.out.mono ?_; rintro e w' ⟨rfl, rfl⟩)
  refine K1.out.mono ?_
  rintro e w2 ⟨rfl, L2, g2⟩
  have L2' := Lib.hid L2
  have g2' := Lib.hid g2
  clear L2 g2
  go_wp2
  go_end0
  exact ⟨rfl, L2'.out, g2'.out⟩

/-- The first refusal. -/
theorem refuse_calls (b : Nat) (S : LS) (r a : Int) (w : World) (h : Led b S w) (hd : S.d = 0) (hk : S.lk = 0) :
    Calls Tryz.prog 69 #[.pointer (some ⟨b, 0, none⟩), .int .i64 r, .int .i64 a] w
      fun e w' => e = .returned (.tuple #[]) ∧ Led b { S with r := r, a := a, br := 1, d := 1 } w' ∧ w.grownBy w' (some b) := by
  have hb := h.lt
  have H := Lib.hid h
  have HD := Lib.hid hd
  have HK := Lib.hid hk
  clear h hd hk
  have hmf : ∀ (fn : Fn) (first cap : Array Value) (w : World), (Instr.makeFunc fn first cap).run Tryz.prog w = .ok (.func fn first cap) w := fun _ _ _ _ => rfl
  go_enter Tryz.func69, Tryz.ntmps69
  go_wp2_with fail
  refine (do_calls b S (w.heap.size + 1) (w.heap.size + 1 + 1) w.heap.size r a _ (((H.out.alloc _).alloc _).alloc _) (by omega) (by omega) (by omega) HD.out HK.out (by go_simp) (by go_simp) (by go_simp)).mono ?_
  rintro e w2 ⟨rfl, L2, g2⟩
  have L2' := Lib.hid L2
  have g2' := Lib.hid (gb_trans (gb_trans (gb_trans (World.grownBy_alloc _ _ _) (World.grownBy_alloc _ _ _)) (World.grownBy_alloc _ _ _)) g2)
  clear L2 g2
  go_wp2
  go_end0
  exact ⟨rfl, L2'.out, g2'.out⟩
end Go.Proofs.YtmhghkgcfgacdaaGreat.Le
