/- Images: Clone, and a pixel, of the code. -/
import Derived.Test.YthgpjdnppknghaaRim2
namespace Go.Proofs.Ythgpjdnppknghaa.Ra
open Go.ChangeShapes Go.WideShapes Go.ChangeAt Go.RowKit
open Go.Proofs.Ythgpjdnppknghaa.Le Go.Proofs.Ythgpjdnppknghaa.Bu Go.Proofs.Ythgpjdnppknghaa.Nu
set_option linter.unusedVariables false

theorem Bx.other {a : Option Addr} {S : ByteArray} {w w' : World} {k : Nat} (h : Bx a S w) (g : w.grownBy w' (some k)) (hk : ∀ ad, a = some ad → ad.block ≠ k) : Bx a S w' := by
  rcases h with h | ⟨b, off, h1, h2⟩
  · exact .inl h
  · have := hk _ h1
    exact .inr ⟨b, off, h1, fun i hi => g.cell (h2 i hi) (by simpa using this)⟩

set_option maxRecDepth 100000 in
set_option maxHeartbeats 1000000 in
theorem clone_calls (X Y : Int) (a : Option Addr) (c : Nat) (S : ByteArray) (w : World) (h : Bx a S w) (hs : S.size ≤ 2000) (hc : a = none → c = 0 ∧ S.size = 0) :
    Calls Try.prog 32 #[.agg #[.int .i64 X, .int .i64 Y, .slice a S.size c]] w
      fun e w' => ∃ a' c', e = .returned (.agg #[.int .i64 X, .int .i64 Y, .slice a' S.size c']) ∧ Bx a' S w' ∧ w.grownBy w' none := by
  have K := fun w h => bclone_calls a c S w h hs hc
  obtain ⟨n, hn⟩ : ∃ n, S.size = n := ⟨_, rfl⟩
  simp only [hn] at K ⊢
  have K' := Lib.hid K
  have H := Lib.hid h
  clear K h hs hc hn
  go_enter Try.func32, Try.ntmps32
  go_wp2_with fail
  have hbox : ((w.alloc (.cells #[.int .i64 X, .int .i64 Y, .slice a n c] 48)).alloc (.cells #[.int .i64 0, .int .i64 0, .slice none 0 0] 48)).heap[w.heap.size]? = some (.cells #[.int .i64 X, .int .i64 Y, .slice a n c] 48 (0, 0)) := blk_al blk_at _
  have hres : ((w.alloc (.cells #[.int .i64 X, .int .i64 Y, .slice a n c] 48)).alloc (.cells #[.int .i64 0, .int .i64 0, .slice none 0 0] 48)).heap[w.heap.size + 1]? = some (.cells #[.int .i64 0, .int .i64 0, .slice none 0 0] 48 (0, 0)) := by
    rw [← size_alloc w (.cells #[.int .i64 X, .int .i64 Y, .slice a n c] 48)]
    exact blk_at
  have hsz : ((w.alloc (.cells #[.int .i64 X, .int .i64 Y, .slice a n c] 48)).alloc (.cells #[.int .i64 0, .int .i64 0, .slice none 0 0] 48)).heap.size = w.heap.size + 1 + 1 := by rw [size_alloc, size_alloc]
  have hg : w.grownBy ((w.alloc (.cells #[.int .i64 X, .int .i64 Y, .slice a n c] 48)).alloc (.cells #[.int .i64 0, .int .i64 0, .slice none 0 0] 48)) none := gb_trans (World.grownBy_alloc _ _ _) (World.grownBy_alloc _ _ _)
  generalize (w.alloc (.cells #[.int .i64 X, .int .i64 Y, .slice a n c] 48)).alloc (.cells #[.int .i64 0, .int .i64 0, .slice none 0 0] 48) = w1 at hbox hres hsz hg ⊢
  have e0 := blk_cell hbox 0
  have e1 := blk_cell hbox 1
  have e2 := blk_cell hbox 2
  simp only [List.getElem?_toArray, List.getElem?_cons_succ, List.getElem?_cons_zero] at e0 e1 e2
  have HB := Lib.hid hbox
  have HR := Lib.hid hres
  have HG := Lib.hid hg
  have HZ := Lib.hid hsz
  clear hbox hres hg hsz
  go_region_held3 (fun w' => w'.cell? ⟨w.heap.size, 0, none⟩ = some (.int .i64 X) ∧ w'.cell? ⟨w.heap.size, 1, none⟩ = some (.int .i64 Y) ∧ w'.cell? ⟨w.heap.size, 2, none⟩ = some (.slice a n c)) (go_keep)
    (first | (go_at_call 59; refine (K'.out _ (H.out.grown (gb_trans HG.out (gb_drew _ none)))).mono ?_; rintro e w2 ⟨a', c', rfl, B2, g2, hnew⟩; have kk0 : w2.cell? ⟨w.heap.size, 0, none⟩ = some (.int .i64 X) := g2.cell e0 (by simp); have kk1 : w2.cell? ⟨w.heap.size, 1, none⟩ = some (.int .i64 Y) := g2.cell e1 (by simp); have kk2 : w2.cell? ⟨w.heap.size, 2, none⟩ = some (.slice a n c) := g2.cell e2 (by simp); have R2 := (g2.block _ (blk_lt HR.out) (by simp)).trans HR.out; have r0 : w2.cell? ⟨w.heap.size + 1, 0, none⟩ = some (.int .i64 0) := blk_cell R2 0; have r1 : w2.cell? ⟨w.heap.size + 1, 1, none⟩ = some (.int .i64 0) := blk_cell R2 1; have r2 : w2.cell? ⟨w.heap.size + 1, 2, none⟩ = some (.slice none 0 0) := blk_cell R2 2; have f0 := blk_free R2 0; have f1 := blk_free R2 1; have f2 := blk_free R2 2; have HB2 := Lib.hid B2; have HN := Lib.hid (show ∀ ad, a' = some ad → w.heap.size + 1 + 1 ≤ ad.block from fun ad h => by have := hnew ad h; have hz := HZ.out; have e1 : w1.drew.heap.size = w1.heap.size := rfl; omega); have G2 := Lib.hid (gb_trans (gb_trans HG.out (gb_drew _ none)) g2); clear B2 g2 R2 hnew))
  all_goals
    go_wp2
    refine bodyPost_ret (v := .agg #[.int .i64 X, .int .i64 Y, .slice a' n c']) (by simp [results, Try.results32, go_sem, r0, r1, r2]) rfl ⟨a', c', rfl, ?_, ?_⟩
    · exact HB2.out.other (gb_trans (gb_trans (gb_set _ _ _ _) (gb_set _ _ _ _)) (gb_set _ _ _ _)) (fun ad h => by have := HN.out ad h; omega)
    · exact gb_new (gb_new (gb_new G2.out (by omega) (gb_set _ _ _ _)) (by omega) (gb_set _ _ _ _)) (by omega) (gb_set _ _ _ _)

end Go.Proofs.Ythgpjdnppknghaa.Ra
