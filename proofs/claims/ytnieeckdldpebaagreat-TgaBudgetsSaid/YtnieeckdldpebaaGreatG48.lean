/- Texts of one kind, one behind the other: TrL. -/
import Derived.BigRegion
import Derived.Test.YtnieeckdldpebaaGreatG45
import Derived.Test.YtnieeckdldpebaaGreatG46
import Derived.Test.YtnieeckdldpebaaGreatG47
/- Layer 19: the chapter's example (written by wip/gen/tru.py). -/
namespace Go.Proofs.YtnieeckdldpebaaGreat.Tr
open Go.ChangeShapes Go.WideShapes Go.ChangeAt Go.RowKit
open Go.Proofs.YtnieeckdldpebaaGreat.Le Go.Proofs.YtnieeckdldpebaaGreat.Tk Go.Proofs.YtnieeckdldpebaaGreat.Sc Go.Proofs.YtnieeckdldpebaaGreat.Sr Go.Proofs.YtnieeckdldpebaaGreat.Tg Go.Proofs.YtnieeckdldpebaaGreat.Tp Go.Proofs.YtnieeckdldpebaaGreat.Ra
set_option linter.unusedVariables false

theorem by_of {g : Nat} {S : ByteArray} {w : World} (h : w.heap[g]? = some (.cells (Bu.bys S) 5 (0, 0))) : Lib.Bytes w g 0 S := fun i hi => by
  rw [Nat.zero_add]
  exact (blk_cell h i).trans (Bu.bys_at S i hi)
theorem bx_of {g : Nat} {S : ByteArray} {w : World} (h : w.heap[g]? = some (.cells (Bu.bys S) 5 (0, 0))) : Bx (some ⟨g, 0, none⟩) S w := .inr ⟨g, 0, rfl, by_of h⟩

def exT : ByteArray := ⟨#[0, 0, 2, 0, 0, 0, 0, 0, 0, 0, 0, 0, 1, 0, 1, 0, 32, 8, 1, 2, 3, 4]⟩
theorem ext_hd : Hd exT := hd_of (by decide) ⟨by decide, rfl, by decide +kernel⟩
theorem ext_both : BothR (bn exT 0) (bn exT 2) (fst exT) (cnt exT) (ent exT) (wd exT 12) (wd exT 14) (bn exT 16) (alp exT) false (lft exT) (tpp exT) 0 exT 4 (inC exT 4 (cC 3 32 8 exT)) (inKn exT 4) (inPn exT 4) := by
  rw [show bn exT 16 = 32 from by decide +kernel, show alp exT = 8 from by decide +kernel]
  exact bothr_col_32_8 _ _ _ _ _ _ _ _ _ _ 0 exT (by decide) (by decide +kernel) (by decide +kernel)
theorem ext_td : ∃ v : TV, TD exT v ∧ v.f = 0 ∧ v.w = 1 ∧ v.h = 1 ∧ v.A = ⟨#[3, 2, 1, 4]⟩ ∧ v.N ≤ 20 ∧ v.B ≤ 4 :=
  ⟨_, td_none exT ext_hd 1 (by decide +kernel) (by decide +kernel) (by decide +kernel) 0 4 _ _ _ ext_both, by decide +kernel, by decide +kernel, by decide +kernel, by kernel_rfl, by decide +kernel, by decide +kernel⟩

theorem wide_calls (W : World) : Calls Tryz.prog 9 #[] W fun e w' => e = .returned (.agg #[.int .i64 16384, .int .i64 16384, .int .i64 262144, .int .i64 1048576]) ∧ W.grownBy w' none := by
  go_enter Tryz.func9, Tryz.ntmps9
  go_wp2
  refine bodyPost_ret (v := .agg #[.int .i64 16384, .int .i64 16384, .int .i64 262144, .int .i64 1048576]) (by simp only [results, Tryz.results9]; go_simp) rfl ?_
  exact ⟨rfl, World.grownBy_alloc _ _ _⟩

set_option maxRecDepth 100000 in
set_option maxHeartbeats 4000000 in
theorem awake19_calls (W : World) : Calls Tryz.prog 6 #[] W fun e w' => e = .returned (.bool true) ∧ W.grownBy w' none := by
  obtain ⟨v, HD, f0, w0, h0, hA, hN, hB⟩ := ext_td
  have KB := Lib.hid (fun u => exbytes_calls u)
  have KW := Lib.hid (fun u => wide_calls u)
  have KR := Lib.hid (fun u => run15_calls exT v HD 16384 16384 262144 1048576 u (by decide) (by decide) (by decide) (by decide) (by decide))
  have HV := Lib.hid (And.intro f0 (And.intro w0 (And.intro h0 (And.intro hA (And.intro hN hB)))))
  have hz : exH.size = 18 := by decide
  have hn : ¬ 9223372036854775807 < exH.size + 4 := by rw [hz]; decide
  clear HD f0 w0 h0 hA hN hB
  go_enter Tryz.func6, Tryz.ntmps6
  go_wp2_with fail
  refine (KB.out _).mono ?_
  rintro e w0 ⟨rfl, g0⟩
  have G0 := Lib.hid g0
  clear g0
  go_wp2_with fail
  refine (KW.out _).mono ?_
  rintro e w1 ⟨rfl, g1⟩
  have G1 := Lib.hid (gb_trans G0.out g1)
  clear g1
  go_wp2_with fail
  refine (KR.out _).mono ?_
  rintro e w2 ⟨img, fault, l, rfl, y, L2, ok2, lim, g2, H⟩
  obtain ⟨f0, w0, h0, hA, hN, hB⟩ := HV.out
  rw [f0, w0, h0, hA] at H
  rcases H with ⟨_, ⟨g, rfl, hb, _⟩, rfl, _⟩ | ⟨hz, _⟩ | ⟨hno, _⟩
  · have g3 := gb_trans (World.grownBy_alloc w2 (.cells #[.int .i64 1, .int .i64 1, .slice (some ⟨g, 0, none⟩) 4 4] 27) none) (World.grownBy_alloc _ (.cells #[.int .i64 0, .int .i64 0, .int .i64 0] 29) none)
    have hb2 := blk_al (blk_al hb (.cells #[.int .i64 1, .int .i64 1, .slice (some ⟨g, 0, none⟩) 4 4] 27)) (.cells #[.int .i64 0, .int .i64 0, .int .i64 0] 29)
    have hc := conv_bx (bx_of hb2) 4
    have hsz : (⟨#[3, 2, 1, 4]⟩ : ByteArray).size = 4 := by kernel_rfl
    rw [hsz] at hc
    have G := Lib.hid (gb_trans G1.out (gb_trans g2 g3))
    clear g2 g3 hb hb2 L2 ok2 KR hsz lim w0 h0 f0 hA hN hB
    simp only [okT, show ((1 : Nat) : Int) = 1 from rfl, show 4 * (1 * 1) = 4 from rfl]
    go_wp2
    go_ret
    exact ⟨rfl, G.out⟩
  · exact absurd rfl hz
  · exfalso
    have e1 : (St.new 16384 16384 262144 1048576).w = 16384 ∧ (St.new 16384 16384 262144 1048576).h = 16384 ∧ (St.new 16384 16384 262144 1048576).b = 262144 ∧ (St.new 16384 16384 262144 1048576).s = 1048576 := ⟨by decide, by decide, by decide, by decide⟩
    obtain ⟨e1, e2, e3, e4⟩ := e1
    rw [e1, e2, e3, e4] at hno
    omega

end Go.Proofs.YtnieeckdldpebaaGreat.Tr
