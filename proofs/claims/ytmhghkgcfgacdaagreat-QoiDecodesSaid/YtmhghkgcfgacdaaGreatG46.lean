/- Texts of one kind, one behind the other: Qv3. -/
import Derived.Deep.RegionLaw
import Derived.Lib.ConvBytes
import Derived.Test.YtmhghkgcfgacdaaGreatG17
import Derived.Test.YtmhghkgcfgacdaaGreatG43
/- The document's Plain of a list of pixels (written by wip/gen/qd13.py). -/
namespace Go.Proofs.YtmhghkgcfgacdaaGreat.Qd
open Go.ChangeShapes Go.WideShapes Go.ChangeAt Go.RowKit
open Go.Proofs.YtmhghkgcfgacdaaGreat.Le Go.Proofs.YtmhghkgcfgacdaaGreat.Tk Go.Proofs.YtmhghkgcfgacdaaGreat.Ra Go.Proofs.YtmhghkgcfgacdaaGreat.Sh
set_option linter.unusedVariables false

/-- A string is made bytes: a step of a region that draws its order. -/
theorem conv_step {ops : Array Oper} {o : Oper} {a : Act} {K : Act → World → Prop} {Q : Exit → Act → World → Prop} {E : Prop} {x : Operand} {S : ByteArray} {n : Nat} {w5 : World} (hn : S.size = n)
    (hgd : o.guard = none) (ho : o.op = .convert 9 25 x) (hx : a.eval x = .string S)
    (h : K (a.put o.dst (.slice (some ⟨w5.heap.size, 0, none⟩) n (grownCap w5 n 0 5))) (Lib.bytesWorld w5 5 S)) :
    if Region.wanted o (yielded ops a.tmps) = true then Oper.wp Tryz.prog o a w5 K Q else E := by
  have hw : Region.wanted o (yielded ops a.tmps) = true := by simp [Region.wanted, hgd]
  rw [if_pos hw]
  have hr := Lib.run_convert_string_bytes (P := Tryz.prog) w5 9 25 5 S (u := .string) (by kernel_rfl) (by kernel_rfl) (by kernel_rfl)
  rw [hn] at hr
  unfold Oper.wp execOp
  simp only [ho, Sem.run_bind, Sem.run_pure, Result.andThen_ok, hx, hr]
  exact h

theorem gb_bytes (w : World) (e : TypeId) (s : ByteArray) (row : Option Nat) : w.grownBy (Lib.bytesWorld w e s) row :=
  ⟨rfl, rfl, rfl, by rw [Lib.bytesWorld_size]; omega, fun k hk _ => Lib.bytesWorld_at_old w e s k hk⟩
theorem bx_bytes (w : World) (s : ByteArray) : Bx (some ⟨w.heap.size, 0, none⟩) s (Lib.bytesWorld w 5 s) := .inr ⟨w.heap.size, 0, rfl, fun i hi => by
  rw [Nat.zero_add, Lib.bytesWorld_cell w _ s i hi]
  have h2 : i < s.data.toList.length := by rw [← Lib.size_eq]; exact hi
  rw [List.getD_eq_getElem?_getD, List.getElem?_eq_getElem h2]
  rfl⟩

set_option maxRecDepth 100000 in
set_option maxHeartbeats 4000000 in
/-- A list of pixels as an image. -/
theorem rplain_calls (b cap w h : Nat) (fz pz : Int) (l : List (Nat × Nat × Nat × Nat)) (W : World) (hc : CB b l W) (h255 : L255 l) (hl : l.length ≤ 10000) (h1 : 1 ≤ l.length) (hcap : l.length ≤ cap) :
    Calls Tryz.prog 15 #[.agg #[.int .i64 w, .int .i64 h, .slice (some ⟨b, 0, none⟩) l.length cap, .int .i64 fz, .int .i64 pz]] W fun e w' =>
      ∃ g c, e = .returned (.agg #[.int .i64 w, .int .i64 h, .slice (some ⟨g, 0, none⟩) (4 * l.length) c]) ∧ Bx (some ⟨g, 0, none⟩) ⟨(pbs l).toArray⟩ w' ∧ W.grownBy w' none := by
  obtain ⟨S, hS⟩ : ∃ S : ByteArray, (⟨(pbs l).toArray⟩ : ByteArray) = S := ⟨_, rfl⟩
  have hsz : S.size = 4 * l.length := by
    rw [← hS, Lib.size_eq]
    exact pbs_len l
  have KB := fun u (g : W.grownBy u none) => rbytes_calls b cap l u (hc.kept g (by simp)) h255 hl hcap
  rw [hS] at KB ⊢
  obtain ⟨n, hn⟩ : ∃ n, l.length = n := ⟨_, rfl⟩
  rw [hn] at KB hsz h1 hl ⊢
  have KB := Lib.hid KB
  have hcv : ∀ u, (convert 9 25 (.string S)).run Tryz.prog u = .ok (.slice (some ⟨u.heap.size, 0, none⟩) (4 * n) (grownCap u (4 * n) 0 5)) (Lib.bytesWorld u 5 S) := fun u => by
    have := Lib.run_convert_string_bytes (P := Tryz.prog) u 9 25 5 S (u := .string) (by kernel_rfl) (by kernel_rfl) (by kernel_rfl)
    rw [hsz] at this
    exact this
  have HCV := Lib.hid hcv
  have B0 : ((W.alloc (.cells #[.int .i64 w, .int .i64 h, .slice (some ⟨b, 0, none⟩) n cap, .int .i64 fz, .int .i64 pz] 39)).alloc (.cells #[.int .i64 0, .int .i64 0, .slice none 0 0] 27)).heap[W.heap.size]? = some (.cells #[.int .i64 w, .int .i64 h, .slice (some ⟨b, 0, none⟩) n cap, .int .i64 fz, .int .i64 pz] 39 (0, 0)) := blk_al blk_at _
  have I0 : ((W.alloc (.cells #[.int .i64 w, .int .i64 h, .slice (some ⟨b, 0, none⟩) n cap, .int .i64 fz, .int .i64 pz] 39)).alloc (.cells #[.int .i64 0, .int .i64 0, .slice none 0 0] 27)).heap[W.heap.size + 1]? = some (.cells #[.int .i64 0, .int .i64 0, .slice none 0 0] 27 (0, 0)) := by
    rw [← size_alloc W (.cells #[.int .i64 w, .int .i64 h, .slice (some ⟨b, 0, none⟩) n cap, .int .i64 fz, .int .i64 pz] 39)]
    exact blk_at
  have g0 := gb_trans (World.grownBy_alloc W (.cells #[.int .i64 w, .int .i64 h, .slice (some ⟨b, 0, none⟩) n cap, .int .i64 fz, .int .i64 pz] 39) none) (World.grownBy_alloc _ (.cells #[.int .i64 0, .int .i64 0, .slice none 0 0] 27) none)
  have HB0 := Lib.hid B0
  have HI0 := Lib.hid I0
  have HG0 := Lib.hid g0
  clear hS hc h255 hcap hn B0 I0 g0 hcv
  go_enter Tryz.func15, Tryz.ntmps15
  go_wp2_with fail
  generalize (W.alloc (.cells #[.int .i64 w, .int .i64 h, .slice (some ⟨b, 0, none⟩) n cap, .int .i64 fz, .int .i64 pz] 39)).alloc (.cells #[.int .i64 0, .int .i64 0, .slice none 0 0] 27) = w0 at HB0 HI0 HG0 ⊢
  have q0 : w0.cell? ⟨W.heap.size, 0, none⟩ = some (.int .i64 w) := blk_cell HB0.out 0
  have q1 : w0.cell? ⟨W.heap.size, 1, none⟩ = some (.int .i64 h) := blk_cell HB0.out 1
  have q2 : w0.cell? ⟨W.heap.size, 2, none⟩ = some (.slice (some ⟨b, 0, none⟩) n cap) := blk_cell HB0.out 2
  go_region_law (first
    | (go_simp; go_at_call 35; refine (KB.out _ (gb_trans HG0.out (gb_drew w0 none))).mono ?_; rintro e w2 ⟨rfl, g2⟩; have G2 := Lib.hid (gb_trans (gb_drew w0 none) g2); have hcv2 := HCV.out w2; have B2 := (G2.out.block _ (blk_lt HB0.out) (by simp)).trans HB0.out; have I2 := (G2.out.block _ (blk_lt HI0.out) (by simp)).trans HI0.out; have kk0 : w2.cell? ⟨W.heap.size, 0, none⟩ = some (.int .i64 w) := blk_cell B2 0; have kk1 : w2.cell? ⟨W.heap.size, 1, none⟩ = some (.int .i64 h) := blk_cell B2 1; have kk2 : w2.cell? ⟨W.heap.size, 2, none⟩ = some (.slice (some ⟨b, 0, none⟩) n cap) := blk_cell B2 2; have gb3 := gb_bytes w2 5 S none; have B3 := (gb3.block _ (blk_lt B2) (by simp)).trans B2; have I3 := (gb3.block _ (blk_lt I2) (by simp)).trans I2; have m0 : (Lib.bytesWorld w2 5 S).cell? ⟨W.heap.size, 0, none⟩ = some (.int .i64 w) := blk_cell B3 0; have m1 : (Lib.bytesWorld w2 5 S).cell? ⟨W.heap.size, 1, none⟩ = some (.int .i64 h) := blk_cell B3 1; have m2 : (Lib.bytesWorld w2 5 S).cell? ⟨W.heap.size, 2, none⟩ = some (.slice (some ⟨b, 0, none⟩) n cap) := blk_cell B3 2; have r0 : (Lib.bytesWorld w2 5 S).cell? ⟨W.heap.size + 1, 0, none⟩ = some (.int .i64 0) := blk_cell I3 0; have r1 : (Lib.bytesWorld w2 5 S).cell? ⟨W.heap.size + 1, 1, none⟩ = some (.int .i64 0) := blk_cell I3 1; have r2 : (Lib.bytesWorld w2 5 S).cell? ⟨W.heap.size + 1, 2, none⟩ = some (.slice none 0 0) := blk_cell I3 2; have f0 := blk_free I3 0; have f1 := blk_free I3 1; have f2 := blk_free I3 2; have HG3 := Lib.hid gb3; have HI2 := Lib.hid (blk_lt I2); clear B2 I2 B3 I3 gb3 g2))
  all_goals
    go_wp2
    refine bodyPost_ret (v := .agg #[.int .i64 w, .int .i64 h, .slice (some ⟨w2.heap.size, 0, none⟩) (4 * n) (grownCap w2 (4 * n) 0 5)]) (by simp only [results, Tryz.results15]; go_simp) rfl ⟨_, _, rfl, ?_, ?_⟩
    · exact (((bx_bytes w2 S).other (gb_set _ (W.heap.size + 1) 0 _) (fun ad e => by cases e; have := HI2.out; show w2.heap.size ≠ _; omega)).other (gb_set _ (W.heap.size + 1) 1 _) (fun ad e => by cases e; have := HI2.out; show w2.heap.size ≠ _; omega)).other (gb_set _ (W.heap.size + 1) 2 _) (fun ad e => by cases e; have := HI2.out; show w2.heap.size ≠ _; omega)
    · exact gb_own3 (gb_trans (gb_trans HG0.out G2.out) HG3.out) (Nat.le_succ _)

end Go.Proofs.YtmhghkgcfgacdaaGreat.Qd
