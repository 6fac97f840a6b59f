/- Package ledger: the first refusal is kept. -/
import Derived.Test.YtfhcefglefkakaaGreatDoorLed2
namespace Go.Proofs.YtfhcefglefkakaaGreatDoor.Le
open Go.ChangeShapes Go.WideShapes Go.ChangeAt Go.RowKit
set_option linter.unusedVariables false

theorem keep_calls (b : Nat) (S : LS) (pr pa pl : Nat) (r a : Int) (w : World) (h : Led b S w) (nr : ¬ b = pr) (na : ¬ b = pa) (nl : ¬ b = pl)
    (hr : w.cell? ⟨pr, 0, none⟩ = some (.int .i64 r)) (ha : w.cell? ⟨pa, 0, none⟩ = some (.int .i64 a)) (hl : w.cell? ⟨pl, 0, none⟩ = some (.pointer (some ⟨b, 0, none⟩))) :
    Calls Tryz.prog 178 #[.pointer (some ⟨pr, 0, none⟩), .pointer (some ⟨pa, 0, none⟩), .pointer (some ⟨pl, 0, none⟩)] w fun e w' => e = .returned (.tuple #[]) ∧ Led b { S with r := r, a := a, br := 1 } w' ∧ w.grownBy w' (some b) := by
  have h12 := h.c 12
  have h10 := h.c 10
  have h11 := h.c 11
  simp only [LS.cells, List.getElem?_toArray, List.getElem?_cons_succ, List.getElem?_cons_zero] at h10 h11 h12
  have f10 := h.free 10
  have f11 := h.free 11
  have f12 := h.free 12
  have H := Lib.hid h
  clear h
  go_enter Tryz.func178, Tryz.ntmps178
  have e1 : Led b { S with r := r, a := a } ((w.setCell ⟨b, 10, none⟩ (.int .i64 r)).setCell ⟨b, 11, none⟩ (.int .i64 a)) :=
    Led.set (Led.set (S' := { S with r := r }) H.out 10 _ (by simp [LS.cells])) 11 _ (by simp [LS.cells])
  have E1 := Lib.hid e1
  clear e1
  go_wp2_with fail
  refine (storeB ⟨b, 12, none⟩ (.int .u32 S.br) _ rfl ((E1.out.c 12).trans (by simp [LS.cells])) (E1.out.free 12)).mono ?_
  rintro e w' ⟨rfl, rfl⟩
  go_wp2
  go_end0
  refine ⟨rfl, ?_, ?_⟩
  · exact Led.set E1.out.drew 12 _ (by simp [LS.cells])
  · exact gb_trans (gb_trans (gb_trans (gb_set _ _ _ _) (gb_set _ _ _ _)) (gb_drew _ _)) (gb_set _ _ _ _)

/-- The Once's slow way, not yet done and its lock free. -/
theorem slow_calls (b : Nat) (S : LS) (pr pa pl : Nat) (r a : Int) (w : World) (h : Led b S w) (nr : ¬ b = pr) (na : ¬ b = pa) (nl : ¬ b = pl) (hd : S.d = 0) (hk : S.lk = 0)
    (hr : w.cell? ⟨pr, 0, none⟩ = some (.int .i64 r)) (ha : w.cell? ⟨pa, 0, none⟩ = some (.int .i64 a)) (hl : w.cell? ⟨pl, 0, none⟩ = some (.pointer (some ⟨b, 0, none⟩))) :
    Calls Tryz.prog 183 #[.pointer (some ⟨b, 7, none⟩), .func (.func 178) #[] #[.pointer (some ⟨pr, 0, none⟩), .pointer (some ⟨pa, 0, none⟩), .pointer (some ⟨pl, 0, none⟩)]] w
      fun e w' => e = .returned (.tuple #[]) ∧ Led b { S with r := r, a := a, br := 1, d := 1 } w' ∧ w.grownBy w' (some b) := by
  have L1 : Led b { S with lk := 1 } (w.setCell ⟨b, 8, none⟩ (.int .i32 1)) := Led.set h 8 _ (by simp [LS.cells])
  have g1 := gb_set w b 8 (.int .i32 1)
  have cr := g1.cell hr (by simpa using fun e => nr e.symm)
  have ca := g1.cell ha (by simpa using fun e => na e.symm)
  have cl := g1.cell hl (by simpa using fun e => nl e.symm)
  have c0 : w.cell? ⟨b, 8, none⟩ = some (.int .i32 0) := (h.c 8).trans (by simp [LS.cells, hk])
  have c1 : (w.setCell ⟨b, 8, none⟩ (.int .i32 1)).cell? ⟨b, 7, none⟩ = some (.int .u32 0) := (L1.c 7).trans (by simp [LS.cells, hd])
  have K1 := Lib.hid (lock_free ⟨b, 8, none⟩ w c0 (h.free 8))
  have K2 := Lib.hid (loadB ⟨b, 7, none⟩ 0 _ c1 rfl)
  have K3 := Lib.hid (keep_calls b _ pr pa pl r a _ L1 nr na nl cr ca cl)
  have hnot : ∀ (x : Bool) (w : World), (Op.unary .not (.bool x)).run Tryz.prog w = .ok (.bool (!x)) w := fun _ _ => rfl
  have HK := Lib.hid hk
  clear hd hk cr ca cl c0 c1 hr ha hl h L1
  have G1 := Lib.hid g1
  clear g1
  go_enter_defers Tryz.func183, Tryz.ntmps183
  go_wp2_with (first | (go_at_call 186; refine K1.out.mono ?_; rintro e w' ⟨rfl, rfl⟩) | (go_at_call 143; refine K2.out.mono ?_; rintro e w' ⟨rfl, rfl⟩))
  refine K3.out.mono ?_
  rintro e w2 ⟨rfl, L2, g2⟩
  have L2' := Lib.hid L2
  have g2' := Lib.hid g2
  clear L2 g2
  go_wp2
  refine leaves_cons (f := 179) (args := #[.pointer (some ⟨b, 7, none⟩), .bool true]) (by simp) (by simp [go_sem]) ?_
  refine (storeB_d ⟨b, 7, none⟩ (.int .u32 S.d) .returning _ rfl ((L2'.out.c 7).trans (by simp [LS.cells])) (L2'.out.free 7)).mono ?_
  rintro e u' w'' ⟨rfl, rfl, rfl⟩
  have L3 : Led b { S with lk := 1, r := r, a := a, br := 1, d := 1 } (w2.drew.setCell ⟨b, 7, none⟩ (.int .u32 1)) := Led.set L2'.out.drew 7 _ (by simp [LS.cells])
  refine leaves_cons (f := 187) (args := #[.pointer (some ⟨b, 8, none⟩)]) (by simp [settle]) (by simp [go_sem]) ?_
  refine (unlock_d ⟨b, 8, none⟩ _ _ ((L3.c 8).trans (by simp [LS.cells])) (L3.free 8)).mono ?_
  rintro e u' w'' ⟨rfl, rfl, rfl⟩
  have L4 : Led b { S with r := r, a := a, br := 1, d := 1, lk := 0 } ((w2.drew.setCell ⟨b, 7, none⟩ (.int .u32 1)).setCell ⟨b, 8, none⟩ (.int .i32 0)) := Led.set L3 8 _ (by simp [LS.cells])
  have g4 := gb_trans (gb_trans (gb_trans (gb_trans G1.out g2'.out) (gb_drew _ _)) (gb_set _ b 7 (.int .u32 1))) (gb_set _ b 8 (.int .i32 0))
  have e0 : S.lk = 0 := HK.out
  rw [show ({ S with r := r, a := a, br := 1, d := 1, lk := 0 } : LS) = { S with r := r, a := a, br := 1, d := 1 } from by rw [← e0]] at L4
  simp [Leaves, settle, results, Tryz.results183]
  exact ⟨L4, g4⟩

/-- Do, not yet done. -/
theorem do_calls (b : Nat) (S : LS) (pr pa pl : Nat) (r a : Int) (w : World) (h : Led b S w) (nr : ¬ b = pr) (na : ¬ b = pa) (nl : ¬ b = pl) (hd : S.d = 0) (hk : S.lk = 0)
    (hr : w.cell? ⟨pr, 0, none⟩ = some (.int .i64 r)) (ha : w.cell? ⟨pa, 0, none⟩ = some (.int .i64 a)) (hl : w.cell? ⟨pl, 0, none⟩ = some (.pointer (some ⟨b, 0, none⟩))) :
    Calls Tryz.prog 177 #[.pointer (some ⟨b, 7, none⟩), .func (.func 178) #[] #[.pointer (some ⟨pr, 0, none⟩), .pointer (some ⟨pa, 0, none⟩), .pointer (some ⟨pl, 0, none⟩)]] w
      fun e w' => e = .returned (.tuple #[]) ∧ Led b { S with r := r, a := a, br := 1, d := 1 } w' ∧ w.grownBy w' (some b) := by
  have K1 := Lib.hid (slow_calls b S pr pa pl r a w h nr na nl hd hk hr ha hl)
  have c1 : w.cell? ⟨b, 7, none⟩ = some (.int .u32 0) := (h.c 7).trans (by simp [LS.cells, hd])
  have K2 := Lib.hid (loadB ⟨b, 7, none⟩ 0 _ c1 rfl)
  have hnot : ∀ (x : Bool) (w : World), (Op.unary .not (.bool x)).run Tryz.prog w = .ok (.bool (!x)) w := fun _ _ => rfl
  clear h hd hk hr ha hl c1
  go_enter Tryz.func177, Tryz.ntmps177
  go_wp2_with (go_at_call 143; refine K2.out.mono ?_; rintro e w' ⟨rfl, rfl⟩)
  refine K1.out.mono ?_
  rintro e w2 ⟨rfl, L2, g2⟩
  have L2' := Lib.hid L2
  have g2' := Lib.hid g2
  clear L2 g2
  go_wp2
  go_end0
  exact ⟨rfl, L2'.out, g2'.out⟩

/-- The first refusal. -/
theorem refuse_calls (b : Nat) (S : LS) (r a : Int) (w : World) (h : Led b S w) (hd : S.d = 0) (hk : S.lk = 0) :
    Calls Tryz.prog 169 #[.pointer (some ⟨b, 0, none⟩), .int .i64 r, .int .i64 a] w
      fun e w' => e = .returned (.tuple #[]) ∧ Led b { S with r := r, a := a, br := 1, d := 1 } w' ∧ w.grownBy w' (some b) := by
  have hb := h.lt
  have H := Lib.hid h
  have HD := Lib.hid hd
  have HK := Lib.hid hk
  clear h hd hk
  have hmf : ∀ (fn : Fn) (first cap : Array Value) (w : World), (Instr.makeFunc fn first cap).run Tryz.prog w = .ok (.func fn first cap) w := fun _ _ _ _ => rfl
  go_enter Tryz.func169, Tryz.ntmps169
  go_wp2_with fail
  refine (do_calls b S (w.heap.size + 1) (w.heap.size + 1 + 1) w.heap.size r a _ (((H.out.alloc _).alloc _).alloc _) (by omega) (by omega) (by omega) HD.out HK.out (by go_simp) (by go_simp) (by go_simp)).mono ?_
  rintro e w2 ⟨rfl, L2, g2⟩
  have L2' := Lib.hid L2
  have g2' := Lib.hid (gb_trans (gb_trans (gb_trans (World.grownBy_alloc _ _ _) (World.grownBy_alloc _ _ _)) (World.grownBy_alloc _ _ _)) g2)
  clear L2 g2
  go_wp2
  go_end0
  exact ⟨rfl, L2'.out, g2'.out⟩
end Go.Proofs.YtfhcefglefkakaaGreatDoor.Le
