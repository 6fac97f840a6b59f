/- Layer 9: MaskCommon, walked. -/
import Derived.Test.YtljbhahdaepecaaDoorMasD
namespace Go.Proofs.YtljbhahdaepecaaDoor.Ma
open Go.ChangeShapes Go.WideShapes Go.ChangeAt Go.RowKit
open Go.Proofs.YtljbhahdaepecaaDoor.Le Go.Proofs.YtljbhahdaepecaaDoor.Sc
set_option linter.unusedVariables false

set_option maxRecDepth 100000 in
theorem common_no_walk (b word : Int) (W : World) (h1 : b ≠ 16) (h2 : b ≠ 32) (hlt : 0 < W.heap.size) (hT : Tab W) :
    Calls Tryd.prog 7 #[.int .i64 b, .int .i64 word] W fun e w' => e = .returned (.bool true) ∧ W.grownBy w' none := by
  have e1 : (b == 16) = false := by simpa using h1
  have e2 : (b == 32) = false := by simpa using h2
  have C := common_no b W h1 h2
  unfold set8 at C
  have C' := Lib.hid C
  have HT := Lib.hid hT
  clear C hT
  go_enter Tryd.func7, Tryd.ntmps7
  go_wp2_with fail
  refine C'.out.mono ?_
  rintro e w1 ⟨rfl, g1⟩
  have G := Lib.hid (gb_trans g1 (World.grownBy_alloc w1 (.cells #[.int .i64 0, .int .i64 0, .int .i64 0, .int .i64 0, .int .i64 0, .int .i64 0, .int .i64 0, .int .i64 0] 35) none))
  have AW := Lib.hid (awake_calls _ (Nat.lt_of_lt_of_le hlt G.out.size) (HT.out.grown hlt G.out))
  clear g1
  go_wp2_with fail
  refine AW.out.mono ?_
  rintro e w4 ⟨rfl, g4⟩
  go_wp2
  go_ret
  exact ⟨rfl, gb_trans G.out g4⟩

set_option maxRecDepth 100000 in
theorem common_16_walk (word : Int) (W : World) (hlt : 0 < W.heap.size) (hT : Tab W) :
    Calls Tryd.prog 7 #[.int .i64 16, .int .i64 word] W fun e w' => e = .returned (.bool true) ∧ W.grownBy w' none := by
  have C := common_16 W
  have ok : ∀ k, k < 4 → okP ((fun k => if k = 0 then 10 else if k = 1 then 5 else 0) k) ((fun k => if k = 3 then 0 else 5) k) := fun k hk => by
    obtain rfl | rfl | rfl | rfl : k = 0 ∨ k = 1 ∨ k = 2 ∨ k = 3 := by omega
    · exact .inr (by decide)
    · exact .inr (by decide)
    · exact .inr (by decide)
    · exact .inl (by decide)
  have K := fun u => color_is (fun k => if k = 0 then 10 else if k = 1 then 5 else 0) (fun k => if k = 3 then 0 else 5) word u ok
  have R := fun u => rcolor_is (fun k => if k = 0 then 10 else if k = 1 then 5 else 0) (fun k => if k = 3 then 0 else 5) word u ok
  have m0 : maskW 10 5 = 31744 := by decide
  have m1 : maskW 5 5 = 992 := by decide
  have m2 : maskW 0 5 = 31 := by decide
  have m3 : maskW 0 0 = 0 := by decide
  simp [m0, m1, m2, m3] at K R
  obtain ⟨c0, h0⟩ : ∃ c, colV word 10 5 = c := ⟨_, rfl⟩
  obtain ⟨c1, h1⟩ : ∃ c, colV word 5 5 = c := ⟨_, rfl⟩
  obtain ⟨c2, h2⟩ : ∃ c, colV word 0 5 = c := ⟨_, rfl⟩
  simp only [h0, h1, h2] at K R
  unfold set8 at C K
  have C' := Lib.hid C
  have K' := Lib.hid K
  have R' := Lib.hid R
  have HT := Lib.hid hT
  clear C K R ok m0 m1 m2 m3 h0 h1 h2 hT
  go_enter Tryd.func7, Tryd.ntmps7
  go_wp2_with fail
  refine C'.out.mono ?_
  rintro e w1 ⟨rfl, g1⟩
  have G := Lib.hid (gb_trans g1 (World.grownBy_alloc w1 (.cells #[.int .i64 10, .int .i64 5, .int .i64 5, .int .i64 5, .int .i64 0, .int .i64 5, .int .i64 0, .int .i64 0] 35) none))
  clear g1
  go_wp2_with fail
  refine (K'.out _).mono ?_
  rintro e w2 ⟨rfl, g2⟩
  have G2 := Lib.hid (gb_trans G.out g2)
  clear g2
  go_wp2_with fail
  refine (R'.out _).mono ?_
  rintro e w3 ⟨rfl, g3⟩
  have G3 := Lib.hid (gb_trans G2.out g3)
  have AW := Lib.hid (awake_calls _ (Nat.lt_of_lt_of_le hlt G3.out.size) (HT.out.grown hlt G3.out))
  clear g3
  go_wp2_with fail
  refine AW.out.mono ?_
  rintro e w4 ⟨rfl, g4⟩
  go_wp2
  go_ret
  exact ⟨rfl, gb_trans G3.out g4⟩

set_option maxRecDepth 100000 in
theorem common_32_walk (word : Int) (W : World) (hlt : 0 < W.heap.size) (hT : Tab W) :
    Calls Tryd.prog 7 #[.int .i64 32, .int .i64 word] W fun e w' => e = .returned (.bool true) ∧ W.grownBy w' none := by
  have C := common_32 W
  have ok : ∀ k, k < 4 → okP ((fun k => if k = 0 then 16 else if k = 1 then 8 else 0) k) ((fun k => if k = 3 then 0 else 8) k) := fun k hk => by
    obtain rfl | rfl | rfl | rfl : k = 0 ∨ k = 1 ∨ k = 2 ∨ k = 3 := by omega
    · exact .inr (by decide)
    · exact .inr (by decide)
    · exact .inr (by decide)
    · exact .inl (by decide)
  have K := fun u => color_is (fun k => if k = 0 then 16 else if k = 1 then 8 else 0) (fun k => if k = 3 then 0 else 8) word u ok
  have R := fun u => rcolor_is (fun k => if k = 0 then 16 else if k = 1 then 8 else 0) (fun k => if k = 3 then 0 else 8) word u ok
  have m0 : maskW 16 8 = 16711680 := by decide
  have m1 : maskW 8 8 = 65280 := by decide
  have m2 : maskW 0 8 = 255 := by decide
  have m3 : maskW 0 0 = 0 := by decide
  simp [m0, m1, m2, m3] at K R
  obtain ⟨c0, h0⟩ : ∃ c, colV word 16 8 = c := ⟨_, rfl⟩
  obtain ⟨c1, h1⟩ : ∃ c, colV word 8 8 = c := ⟨_, rfl⟩
  obtain ⟨c2, h2⟩ : ∃ c, colV word 0 8 = c := ⟨_, rfl⟩
  simp only [h0, h1, h2] at K R
  unfold set8 at C K
  have C' := Lib.hid C
  have K' := Lib.hid K
  have R' := Lib.hid R
  have HT := Lib.hid hT
  clear C K R ok m0 m1 m2 m3 h0 h1 h2 hT
  go_enter Tryd.func7, Tryd.ntmps7
  go_wp2_with fail
  refine C'.out.mono ?_
  rintro e w1 ⟨rfl, g1⟩
  have G := Lib.hid (gb_trans g1 (World.grownBy_alloc w1 (.cells #[.int .i64 16, .int .i64 8, .int .i64 8, .int .i64 8, .int .i64 0, .int .i64 8, .int .i64 0, .int .i64 0] 35) none))
  clear g1
  go_wp2_with fail
  refine (K'.out _).mono ?_
  rintro e w2 ⟨rfl, g2⟩
  have G2 := Lib.hid (gb_trans G.out g2)
  clear g2
  go_wp2_with fail
  refine (R'.out _).mono ?_
  rintro e w3 ⟨rfl, g3⟩
  have G3 := Lib.hid (gb_trans G2.out g3)
  have AW := Lib.hid (awake_calls _ (Nat.lt_of_lt_of_le hlt G3.out.size) (HT.out.grown hlt G3.out))
  clear g3
  go_wp2_with fail
  refine AW.out.mono ?_
  rintro e w4 ⟨rfl, g4⟩
  go_wp2
  go_ret
  exact ⟨rfl, gb_trans G3.out g4⟩

theorem common_walk (b word : Int) (W : World) (hlt : 0 < W.heap.size) (hT : Tab W) :
    Calls Tryd.prog 7 #[.int .i64 b, .int .i64 word] W fun e w' => e = .returned (.bool true) ∧ W.grownBy w' none := by
  by_cases h1 : b = 16
  · subst h1
    exact common_16_walk word W hlt hT
  · by_cases h2 : b = 32
    · subst h2
      exact common_32_walk word W hlt hT
    · exact common_no_walk b word W h1 h2 hlt hT

end Go.Proofs.YtljbhahdaepecaaDoor.Ma
