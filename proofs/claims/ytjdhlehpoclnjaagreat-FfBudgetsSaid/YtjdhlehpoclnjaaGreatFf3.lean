/- Farbfeld: Sides, by any ledger. -/
import Derived.Test.YtjdhlehpoclnjaaGreatFf2
import Derived.BigRegion
namespace Go.Proofs.YtjdhlehpoclnjaaGreat.Ff
open Go.ChangeShapes Go.WideShapes Go.ChangeAt Go.RowKit
open Go.Proofs.YtjdhlehpoclnjaaGreat.Le Go.Proofs.YtjdhlehpoclnjaaGreat.Tk Go.Proofs.YtjdhlehpoclnjaaGreat.Sr Go.Proofs.YtjdhlehpoclnjaaGreat.Sc Go.Proofs.YtjdhlehpoclnjaaGreat.Ra Go.Proofs.YtjdhlehpoclnjaaGreat.Sh
set_option linter.unusedVariables false

def sgF : ByteArray := ⟨#[102, 97, 114, 98, 102, 101, 108, 100]⟩
theorem sgF_size : sgF.size = 8 := rfl

set_option maxRecDepth 100000 in
set_option maxHeartbeats 1000000 in
theorem fsides_bad (c l q : Nat) (s : ByteArray) (x y : St) (k j : Int) (W : World) (R : Rd c l s 0 x W)
    (KR : ∀ u, Rd c l s 0 x u → Calls Tryz.prog 68 #[.pointer (some ⟨c, 0, none⟩), .string sgF, .int .i64 16, .int .i64 6] u (HNo u c l s x 6 k j q y)) :
    Calls Tryz.prog 61 #[.pointer (some ⟨c, 0, none⟩)] W (fun e w' => e = .returned (.tuple #[.int .i64 0, .int .i64 0, flF 6 k j]) ∧ Rd c l s q y w' ∧ Tn W w' [c, l]) := by
  unfold sgF at KR
  have g0 := World.grownBy_alloc W (.cells #[.int .i64 0, .int .i64 0, .int .i64 0] 29) none
  have hc := R.clt
  have hl := R.llt
  have KR0 := Lib.hid (KR _ (R.grown g0))
  have HF0 := Lib.hid (Fl.new W)
  have HT0 := Lib.hid (show Tn W (W.alloc (.cells #[.int .i64 0, .int .i64 0, .int .i64 0] 29)) [c, l] from Tn.gb g0 (by simp))
  clear R KR g0
  go_enter Tryz.func61, Tryz.ntmps61
  go_wp2_with fail
  generalize W.alloc (.cells #[.int .i64 0, .int .i64 0, .int .i64 0] 29) = w0 at KR0 HF0 HT0 ⊢
  refine KR0.out.mono ?_
  rintro e w1 ⟨rfl, R1, T1⟩
  have F1 := HF0.out.turned T1 (by simp; omega)
  have HT1 := Lib.hid (HT0.out.trans T1)
  have HR1 := Lib.hid R1
  have q0 := F1.c0
  have q1 := F1.c1
  have q2 := F1.c2
  have qf0 := F1.free 0
  have qf1 := F1.free 1
  have qf2 := F1.free 2
  have HF1 := Lib.hid F1
  clear R1 T1 HF0 HT0 KR0 F1
  go_wp2_with fail
  have t1 : Tn w1 (((w1.setCell ⟨W.heap.size, 0, none⟩ (.int .i64 k)).setCell ⟨W.heap.size, 1, none⟩ (.int .i64 6)).setCell ⟨W.heap.size, 2, none⟩ (.int .i64 j)) [W.heap.size] := (((Tn.refl w1 [W.heap.size]).st (by simp)).st (by simp)).st (by simp)
  have HR2 := Lib.hid (rd_own HR1.out t1 (by simp; omega) (by simp; omega))
  have HT2 := Lib.hid (HT1.out.over t1 (by intro i hi; simp at hi; left; omega))
  have F2 := HF1.out.set k 6 j
  clear q0 q1 q2 qf0 qf1 qf2 t1 HF1 HT1 HR1
  generalize ((w1.setCell ⟨W.heap.size, 0, none⟩ (.int .i64 k)).setCell ⟨W.heap.size, 1, none⟩ (.int .i64 6)).setCell ⟨W.heap.size, 2, none⟩ (.int .i64 j) = w2 at HR2 HT2 F2 ⊢
  have q0 := F2.c0
  have q1 := F2.c1
  have q2 := F2.c2
  have qf0 := F2.free 0
  have qf1 := F2.free 1
  have qf2 := F2.free 2
  clear F2
  go_region
  go_wp2
  refine bodyPost_ret (v := .tuple #[.int .i64 0, .int .i64 0, flF 6 k j]) (by simp only [results, Tryz.results61, flF]; go_simp) rfl ?_
  have t3 : Tn w2 (((w2.setCell ⟨W.heap.size, 0, none⟩ (.int .i64 k)).setCell ⟨W.heap.size, 1, none⟩ (.int .i64 6)).setCell ⟨W.heap.size, 2, none⟩ (.int .i64 j)).drew [W.heap.size] := ((((Tn.refl w2 [W.heap.size]).st (by simp)).st (by simp)).st (by simp)).dr
  exact ⟨rfl, rd_own HR2.out t3 (by simp; omega) (by simp; omega), HT2.out.over t3 (by intro i hi; simp at hi; left; omega)⟩

set_option maxRecDepth 100000 in
set_option maxHeartbeats 1000000 in
theorem fsides_ok (c l q gw gh : Nat) (s z : ByteArray) (x y : St) (W : World) (R : Rd c l s 0 x W)
    (KR : ∀ u, Rd c l s 0 x u → Calls Tryz.prog 68 #[.pointer (some ⟨c, 0, none⟩), .string sgF, .int .i64 16, .int .i64 6] u (fun e w' => e = .returned (.tuple #[.int .i64 gw, .int .i64 gh, .string z, .agg #[.int .i64 0, .int .i64 0, .int .i64 0]]) ∧ Rd c l s q y w' ∧ Tn u w' [c, l])) :
    Calls Tryz.prog 61 #[.pointer (some ⟨c, 0, none⟩)] W (fun e w' => e = .returned (.tuple #[.int .i64 gw, .int .i64 gh, okT]) ∧ Rd c l s q y w' ∧ Tn W w' [c, l]) := by
  unfold sgF at KR
  have g0 := World.grownBy_alloc W (.cells #[.int .i64 0, .int .i64 0, .int .i64 0] 29) none
  have hc := R.clt
  have hl := R.llt
  have KR0 := Lib.hid (KR _ (R.grown g0))
  have HF0 := Lib.hid (Fl.new W)
  have HT0 := Lib.hid (show Tn W (W.alloc (.cells #[.int .i64 0, .int .i64 0, .int .i64 0] 29)) [c, l] from Tn.gb g0 (by simp))
  clear R KR g0
  go_enter Tryz.func61, Tryz.ntmps61
  go_wp2_with fail
  generalize W.alloc (.cells #[.int .i64 0, .int .i64 0, .int .i64 0] 29) = w0 at KR0 HF0 HT0 ⊢
  refine KR0.out.mono ?_
  rintro e w1 ⟨rfl, R1, T1⟩
  have F1 := HF0.out.turned T1 (by simp; omega)
  have HT1 := Lib.hid (HT0.out.trans T1)
  have HR1 := Lib.hid R1
  have q0 := F1.c0
  have q1 := F1.c1
  have q2 := F1.c2
  have qf0 := F1.free 0
  have qf1 := F1.free 1
  have qf2 := F1.free 2
  have HF1 := Lib.hid F1
  clear R1 T1 HF0 HT0 KR0 F1
  go_wp2_with fail
  have t1 : Tn w1 (((w1.setCell ⟨W.heap.size, 0, none⟩ (.int .i64 0)).setCell ⟨W.heap.size, 1, none⟩ (.int .i64 0)).setCell ⟨W.heap.size, 2, none⟩ (.int .i64 0)) [W.heap.size] := (((Tn.refl w1 [W.heap.size]).st (by simp)).st (by simp)).st (by simp)
  have HR2 := Lib.hid (rd_own HR1.out t1 (by simp; omega) (by simp; omega))
  have HT2 := Lib.hid (HT1.out.over t1 (by intro i hi; simp at hi; left; omega))
  have F2 := HF1.out.set 0 0 0
  clear q0 q1 q2 qf0 qf1 qf2 t1 HF1 HT1 HR1
  generalize ((w1.setCell ⟨W.heap.size, 0, none⟩ (.int .i64 0)).setCell ⟨W.heap.size, 1, none⟩ (.int .i64 0)).setCell ⟨W.heap.size, 2, none⟩ (.int .i64 0) = w2 at HR2 HT2 F2 ⊢
  have q0 := F2.c0
  have q1 := F2.c1
  have q2 := F2.c2
  have qf0 := F2.free 0
  have qf1 := F2.free 1
  have qf2 := F2.free 2
  clear F2
  go_region
  go_wp2
  refine bodyPost_ret (v := .tuple #[.int .i64 gw, .int .i64 gh, okT]) (by simp only [results, Tryz.results61, okT]; go_simp) rfl ?_
  have t3 : Tn w2 (((w2.setCell ⟨W.heap.size, 0, none⟩ (.int .i64 0)).setCell ⟨W.heap.size, 1, none⟩ (.int .i64 0)).setCell ⟨W.heap.size, 2, none⟩ (.int .i64 0)).drew [W.heap.size] := ((((Tn.refl w2 [W.heap.size]).st (by simp)).st (by simp)).st (by simp)).dr
  exact ⟨rfl, rd_own HR2.out t3 (by simp; omega) (by simp; omega), HT2.out.over t3 (by intro i hi; simp at hi; left; omega)⟩

end Go.Proofs.YtjdhlehpoclnjaaGreat.Ff
