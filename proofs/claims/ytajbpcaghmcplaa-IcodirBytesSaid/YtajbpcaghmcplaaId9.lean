/- Layer 24: an entry's bytes (written by wip/gen/id8.py). -/
import Derived.Test.YtajbpcaghmcplaaId8
import Derived.Deep.RegionHeld3
import Derived.Deep.Cut
import Derived.BigRegion
import Derived.Laws.MakeOwn
namespace Go.Proofs.Ytajbpcaghmcplaa.Id
open Go.ChangeShapes Go.WideShapes Go.ChangeAt Go.RowKit
open Go.Proofs.Ytajbpcaghmcplaa.Le Go.Proofs.Ytajbpcaghmcplaa.Sr Go.Proofs.Ytajbpcaghmcplaa.Dh
set_option linter.unusedVariables false

theorem elem8i : (Try.prog.info? 5).map (·.size) = some 1 := by kernel_rfl
theorem size8i (w : World) : (Go.sizeOf 5).run Try.prog w = .ok 1 w := by
  have h := elem8i
  cases hq : Try.prog.info? 5 with
  | none => simp [hq] at h
  | some i =>
    have hi : i.size = 1 := by simpa [hq] using h
    simp [sizeOf, typeInfo, hq, hi]
/-- 's[lo:hi]' of a slice of bytes. -/
theorem slice_in (g off n cap lo hi : Nat) (h1 : lo ≤ hi) (h2 : hi ≤ cap) (h3 : lo < cap) (w : World) :
    (Instr.slice 90 (.slice (some ⟨g, off, none⟩) n cap) (some (.int .i64 (lo : Nat))) (some (.int .i64 (hi : Nat))) none).run Try.prog w = .ok (.slice (some ⟨g, off + lo, none⟩) (hi - lo) (cap - lo)) w := by
  have ht' : Try.prog.underlying 90 = some (.slice (Try.prog.elem 90)) := by kernel_rfl
  have he : Try.prog.elem 90 = 5 := by kernel_rfl
  have hs := size8i w
  rw [run_slice_lh w _ _ _ _ ht' .i64 .i64 _ _ (by omega) (by omega) (by omega), he, hs]
  simp [Result.andThen, sliced, Addr.add, show ¬ cap = lo from by omega]

/-- An entry's bytes from a place on. -/
def enF (f : Nat → Nat) (q w h a b s p : Nat) : Nat → Nat := puF (puF (puF (puF (puF (puF f q w 1) (q + 1) h 1) (q + 4) a 2) (q + 6) b 2) (q + 8) s 4) (q + 12) p 4
theorem puF_sh (f g : Nat → Nat) (off c v n j : Nat) (h : f (off + j) = g j) : puF f (off + c) v n (off + j) = puF g c v n j := by
  unfold puF
  by_cases hc : c ≤ j ∧ j < c + n
  · rw [if_pos (by omega), if_pos hc, show off + j - (off + c) = j - c from by omega]
  · rw [if_neg (by omega), if_neg hc, h]
theorem enF_in (f : Nat → Nat) (off w h a b s p j : Nat) (hz : f (off + j) = 0) : enF f off w h a b s p (off + j) = enF (fun _ => 0) 0 w h a b s p j := by
  unfold enF
  exact puF_sh _ _ off 12 _ _ _ (puF_sh _ _ off 8 _ _ _ (puF_sh _ _ off 6 _ _ _ (puF_sh _ _ off 4 _ _ _ (puF_sh _ _ off 1 _ _ _ (puF_sh f (fun _ => 0) off 0 _ _ _ hz)))))
theorem puF_out (f : Nat → Nat) (off v n k : Nat) (h : ¬ (off ≤ k ∧ k < off + n)) : puF f off v n k = f k := if_neg h
theorem enF_out (f : Nat → Nat) (off w h a b s p k : Nat) (hk : ¬ (off ≤ k ∧ k < off + 16)) : enF f off w h a b s p k = f k := by
  unfold enF
  rw [puF_out _ _ _ _ _ (by omega), puF_out _ _ _ _ _ (by omega), puF_out _ _ _ _ _ (by omega), puF_out _ _ _ _ _ (by omega), puF_out _ _ _ _ _ (by omega), puF_out _ _ _ _ _ (by omega)]

/-- The bytes, the entry's own block. -/
structure Ep (W : World) (g N : Nat) (f : Nat → Nat) (X : Nat) (A : Array Value) (w : World) : Prop where
  bk : Bk g N f w
  bx : w.heap[X]? = some (.cells A 33 (0, 0))
  ne : g ≠ X
  gb : W.grownBy w (some g)
theorem Ep.put {W w w' : World} {g N X : Nat} {f f' : Nat → Nat} {A : Array Value} (h : Ep W g N f X A w) (hb : Bk g N f' w') (k : w.grownBy w' (some g)) : Ep W g N f' X A w' :=
  ⟨hb, old0 k h.bx (blk_lt h.bx) (by simp; exact fun e => h.ne e.symm), h.ne, gb_trans h.gb k⟩

set_option maxRecDepth 100000 in
set_option maxHeartbeats 2000000 in
theorem eput_calls (w h a b s p g N off n cap : Nat) (f : Nat → Nat) (W : World) (hc : 16 ≤ cap) (hn : 16 ≤ n) (hN : off + 16 ≤ N) (hw : w < 4294967296) (hh : h < 4294967296) (ha : a < 4294967296) (hb : b < 4294967296) (hs : s < 4294967296) (hp : p < 4294967296) (HB0 : Bk g N f W) :
    Calls Try.prog 33 #[.agg #[.int .i64 (w : Nat), .int .i64 (h : Nat), .int .i64 (a : Nat), .int .i64 (b : Nat), .int .i64 (s : Nat), .int .i64 (p : Nat)], .slice (some ⟨g, off, none⟩) n cap] W fun e w' => e = .returned (.tuple #[]) ∧ Bk g N (enF f off w h a b s p) w' ∧ W.grownBy w' (some g) := by
  have S0 : ∀ u, (Instr.slice 90 (.slice (some ⟨g, off, none⟩) n cap) (some (.int .i64 0)) (some (.int .i64 1)) none).run Try.prog u = .ok (.slice (some ⟨g, off + 0, none⟩) 1 (cap - 0)) u := fun u => slice_in g off n cap 0 1 (by decide) (by omega) (by omega) u
  have P0 := Lib.hid (fun f u (hu : Bk g N f u) => put_calls g N (off + 0) 1 (cap - 0) w f u (by decide) (by omega) hw hu)
  obtain ⟨c0, hc0⟩ : ∃ c, cap - 0 = c := ⟨_, rfl⟩
  rw [hc0] at S0 P0
  clear hc0
  have S1 : ∀ u, (Instr.slice 90 (.slice (some ⟨g, off, none⟩) n cap) (some (.int .i64 1)) (some (.int .i64 2)) none).run Try.prog u = .ok (.slice (some ⟨g, off + 1, none⟩) 1 (cap - 1)) u := fun u => slice_in g off n cap 1 2 (by decide) (by omega) (by omega) u
  have P1 := Lib.hid (fun f u (hu : Bk g N f u) => put_calls g N (off + 1) 1 (cap - 1) h f u (by decide) (by omega) hh hu)
  obtain ⟨c1, hc1⟩ : ∃ c, cap - 1 = c := ⟨_, rfl⟩
  rw [hc1] at S1 P1
  clear hc1
  have S2 : ∀ u, (Instr.slice 90 (.slice (some ⟨g, off, none⟩) n cap) (some (.int .i64 4)) (some (.int .i64 6)) none).run Try.prog u = .ok (.slice (some ⟨g, off + 4, none⟩) 2 (cap - 4)) u := fun u => slice_in g off n cap 4 6 (by decide) (by omega) (by omega) u
  have P2 := Lib.hid (fun f u (hu : Bk g N f u) => put_calls g N (off + 4) 2 (cap - 4) a f u (by decide) (by omega) ha hu)
  obtain ⟨c2, hc2⟩ : ∃ c, cap - 4 = c := ⟨_, rfl⟩
  rw [hc2] at S2 P2
  clear hc2
  have S3 : ∀ u, (Instr.slice 90 (.slice (some ⟨g, off, none⟩) n cap) (some (.int .i64 6)) (some (.int .i64 8)) none).run Try.prog u = .ok (.slice (some ⟨g, off + 6, none⟩) 2 (cap - 6)) u := fun u => slice_in g off n cap 6 8 (by decide) (by omega) (by omega) u
  have P3 := Lib.hid (fun f u (hu : Bk g N f u) => put_calls g N (off + 6) 2 (cap - 6) b f u (by decide) (by omega) hb hu)
  obtain ⟨c3, hc3⟩ : ∃ c, cap - 6 = c := ⟨_, rfl⟩
  rw [hc3] at S3 P3
  clear hc3
  have S4 : ∀ u, (Instr.slice 90 (.slice (some ⟨g, off, none⟩) n cap) (some (.int .i64 8)) (some (.int .i64 12)) none).run Try.prog u = .ok (.slice (some ⟨g, off + 8, none⟩) 4 (cap - 8)) u := fun u => slice_in g off n cap 8 12 (by decide) (by omega) (by omega) u
  have P4 := Lib.hid (fun f u (hu : Bk g N f u) => put_calls g N (off + 8) 4 (cap - 8) s f u (by decide) (by omega) hs hu)
  obtain ⟨c4, hc4⟩ : ∃ c, cap - 8 = c := ⟨_, rfl⟩
  rw [hc4] at S4 P4
  clear hc4
  have S5 : ∀ u, (Instr.slice 90 (.slice (some ⟨g, off, none⟩) n cap) (some (.int .i64 12)) (some (.int .i64 16)) none).run Try.prog u = .ok (.slice (some ⟨g, off + 12, none⟩) 4 (cap - 12)) u := fun u => slice_in g off n cap 12 16 (by decide) (by omega) (by omega) u
  have P5 := Lib.hid (fun f u (hu : Bk g N f u) => put_calls g N (off + 12) 4 (cap - 12) p f u (by decide) (by omega) hp hu)
  obtain ⟨c5, hc5⟩ : ∃ c, cap - 12 = c := ⟨_, rfl⟩
  rw [hc5] at S5 P5
  clear hc5
  clear hc hn hN hw hh ha hb hs hp
  have hglt := HB0.lt
  have HB := Lib.hid HB0
  clear HB0
  go_enter Try.func33, Try.ntmps33
  go_upto_region 1 with fail
  have I0 : Ep W g N f W.heap.size #[.int .i64 (w : Nat), .int .i64 (h : Nat), .int .i64 (a : Nat), .int .i64 (b : Nat), .int .i64 (s : Nat), .int .i64 (p : Nat)] (W.alloc (.cells #[.int .i64 (w : Nat), .int .i64 (h : Nat), .int .i64 (a : Nat), .int .i64 (b : Nat), .int .i64 (s : Nat), .int .i64 (p : Nat)] 33)) := ⟨HB.out.gb (World.grownBy_alloc _ _ none) (by simp), blk_at, by omega, World.grownBy_alloc _ _ _⟩
  obtain ⟨X, hX⟩ : ∃ X, W.heap.size = X := ⟨_, rfl⟩
  rw [hX] at I0 ⊢
  generalize W.alloc (.cells #[.int .i64 (w : Nat), .int .i64 (h : Nat), .int .i64 (a : Nat), .int .i64 (b : Nat), .int .i64 (s : Nat), .int .i64 (p : Nat)] 33) = w0 at I0 ⊢
  have HI0 := Lib.hid I0
  clear I0 HB hX
  have x0 := blk_cell HI0.out.bx 0
  simp only [List.getElem?_toArray, List.getElem?_cons_zero] at x0
  have xl := blk_lt HI0.out.bx
  go_region_held3 (fun u => u.cell? ⟨X, 0, none⟩ = some (.int .i64 (w : Nat))) (go_keep)
    (first
      | (go_at_call 30; refine (P0.out _ _ (HI0.out.bk.gb (gb_drew _ none) (by simp))).mono ?_; rintro e u1 ⟨rfl, hb, gx⟩; have HI1 := Lib.hid (HI0.out.put hb (gb_trans (gb_drew _ _) gx)); clear hb gx; have y0 := blk_cell HI1.out.bx 0; simp only [List.getElem?_toArray, List.getElem?_cons_zero] at y0))
  clear x0 y0 xl HI0
  go_upto_region 2 with fail
  have x1 := blk_cell HI1.out.bx 1
  simp only [List.getElem?_toArray, List.getElem?_cons_succ, List.getElem?_cons_zero] at x1
  have xl := blk_lt HI1.out.bx
  go_region_held3 (fun u => u.cell? ⟨X, 1, none⟩ = some (.int .i64 (h : Nat))) (go_keep)
    (first
      | (go_at_call 30; refine (P1.out _ _ (HI1.out.bk.gb (gb_drew _ none) (by simp))).mono ?_; rintro e u2 ⟨rfl, hb, gx⟩; have HI2 := Lib.hid (HI1.out.put hb (gb_trans (gb_drew _ _) gx)); clear hb gx; have y1 := blk_cell HI2.out.bx 1; simp only [List.getElem?_toArray, List.getElem?_cons_succ, List.getElem?_cons_zero] at y1))
  clear x1 y1 xl HI1
  go_upto_region 3 with fail
  have x2 := blk_cell HI2.out.bx 2
  simp only [List.getElem?_toArray, List.getElem?_cons_succ, List.getElem?_cons_zero] at x2
  have xl := blk_lt HI2.out.bx
  go_region_held3 (fun u => u.cell? ⟨X, 2, none⟩ = some (.int .i64 (a : Nat))) (go_keep)
    (first
      | (go_at_call 30; refine (P2.out _ _ (HI2.out.bk.gb (gb_drew _ none) (by simp))).mono ?_; rintro e u3 ⟨rfl, hb, gx⟩; have HI3 := Lib.hid (HI2.out.put hb (gb_trans (gb_drew _ _) gx)); clear hb gx; have y2 := blk_cell HI3.out.bx 2; simp only [List.getElem?_toArray, List.getElem?_cons_succ, List.getElem?_cons_zero] at y2))
  clear x2 y2 xl HI2
  go_upto_region 4 with fail
  have x3 := blk_cell HI3.out.bx 3
  simp only [List.getElem?_toArray, List.getElem?_cons_succ, List.getElem?_cons_zero] at x3
  have xl := blk_lt HI3.out.bx
  go_region_held3 (fun u => u.cell? ⟨X, 3, none⟩ = some (.int .i64 (b : Nat))) (go_keep)
    (first
      | (go_at_call 30; refine (P3.out _ _ (HI3.out.bk.gb (gb_drew _ none) (by simp))).mono ?_; rintro e u4 ⟨rfl, hb, gx⟩; have HI4 := Lib.hid (HI3.out.put hb (gb_trans (gb_drew _ _) gx)); clear hb gx; have y3 := blk_cell HI4.out.bx 3; simp only [List.getElem?_toArray, List.getElem?_cons_succ, List.getElem?_cons_zero] at y3))
  clear x3 y3 xl HI3
  go_upto_region 5 with fail
  have x4 := blk_cell HI4.out.bx 4
  simp only [List.getElem?_toArray, List.getElem?_cons_succ, List.getElem?_cons_zero] at x4
  have xl := blk_lt HI4.out.bx
  go_region_held3 (fun u => u.cell? ⟨X, 4, none⟩ = some (.int .i64 (s : Nat))) (go_keep)
    (first
      | (go_at_call 30; refine (P4.out _ _ (HI4.out.bk.gb (gb_drew _ none) (by simp))).mono ?_; rintro e u5 ⟨rfl, hb, gx⟩; have HI5 := Lib.hid (HI4.out.put hb (gb_trans (gb_drew _ _) gx)); clear hb gx; have y4 := blk_cell HI5.out.bx 4; simp only [List.getElem?_toArray, List.getElem?_cons_succ, List.getElem?_cons_zero] at y4))
  clear x4 y4 xl HI4
  go_upto_region 6 with fail
  have x5 := blk_cell HI5.out.bx 5
  simp only [List.getElem?_toArray, List.getElem?_cons_succ, List.getElem?_cons_zero] at x5
  have xl := blk_lt HI5.out.bx
  go_region_held3 (fun u => u.cell? ⟨X, 5, none⟩ = some (.int .i64 (p : Nat))) (go_keep)
    (first
      | (go_at_call 30; refine (P5.out _ _ (HI5.out.bk.gb (gb_drew _ none) (by simp))).mono ?_; rintro e u6 ⟨rfl, hb, gx⟩; have HI6 := Lib.hid (HI5.out.put hb (gb_trans (gb_drew _ _) gx)); clear hb gx; have y5 := blk_cell HI6.out.bx 5; simp only [List.getElem?_toArray, List.getElem?_cons_succ, List.getElem?_cons_zero] at y5))
  clear x5 y5 xl HI5
  first | go_end0 | (simp only [Exit.inBlock, Exit.then]; refine bodyPost_ret (results_none rfl _ _ _) rfl ?_) | refine bodyPost_ret (results_none rfl _ _ _) rfl ?_
  exact ⟨rfl, HI6.out.bk, HI6.out.gb⟩

end Go.Proofs.Ytajbpcaghmcplaa.Id
