/- Layer 10: the chapter's examples; PaletteEntries, walked. -/
import Derived.Test.YtljbhahdaepecaaPalD
namespace Go.Proofs.Ytljbhahdaepecaa.Pa
open Go.ChangeShapes Go.WideShapes Go.ChangeAt Go.RowKit
open Go.Proofs.Ytljbhahdaepecaa.Sc Go.Proofs.Ytljbhahdaepecaa.Le
set_option linter.unusedVariables false

set_option maxRecDepth 100000 in
theorem awake_calls (W : World) : Calls Try.prog 7 #[] W fun e w' => e = .returned (.bool true) ∧ W.grownBy w' none := by
  have K1 := fun u => entry_y1 ⟨#[1, 2, 3]⟩ 3 2 1 255 u (by decide) (by decide) (fun v => opaque_calls ⟨#[1, 2, 3]⟩ 1 2 3 v (by decide) (by decide) rfl rfl rfl)
  have K2 := fun u => entry_y0 ⟨#[255, 127]⟩ 255 255 255 255 u (by decide) (by decide) (fun v => packed_calls ⟨#[255, 127]⟩ 255 127 v (by decide) (by decide) rfl rfl)
  have K1' := Lib.hid K1
  have K2' := Lib.hid K2
  clear K1 K2
  go_enter Try.func7, Try.ntmps7
  go_wp2_with fail
  refine (K1'.out _).mono ?_
  rintro e w1 ⟨rfl, g1⟩
  have G1 := Lib.hid g1
  clear g1
  go_wp2_with fail
  refine (K2'.out _).mono ?_
  rintro e w2 ⟨rfl, g2⟩
  have A2 : w2.heap[w1.heap.size]? = some (.cells #[.int .u8 3, .int .u8 2, .int .u8 1, .int .u8 255] 24 (0, 0)) := old1 g2 (by simp)
  have m0 : w2.cell? ⟨w1.heap.size, 0, none⟩ = some (.int .u8 3) := blk_cell A2 0
  have m1 : w2.cell? ⟨w1.heap.size, 1, none⟩ = some (.int .u8 2) := blk_cell A2 1
  have m2 : w2.cell? ⟨w1.heap.size, 2, none⟩ = some (.int .u8 1) := blk_cell A2 2
  have m3 : w2.cell? ⟨w1.heap.size, 3, none⟩ = some (.int .u8 255) := blk_cell A2 3
  have hl2 : w1.heap.size < w2.heap.size := blk_lt A2
  have G2 := Lib.hid (gb_trans (gb_trans G1.out (World.grownBy_alloc _ _ _)) g2)
  clear g2 A2
  go_wp2
  go_ret
  exact ⟨rfl, gb_trans G2.out (World.grownBy_alloc _ _ _)⟩

set_option maxRecDepth 100000 in
theorem entries_long (s : ByteArray) (kd : Int) (W : World) (hm : s.size ≤ 9223372036854775807) (h : 100 < s.size) : Calls Try.prog 3 #[.string s, .int .i64 kd] W fun e w' => e = .returned (.bool true) ∧ W.grownBy w' none := by
  have AW := Lib.hid (fun u => awake_calls u)
  have h' : (100 : Int) < s.size := by omega
  go_enter Try.func3, Try.ntmps3
  go_wp2_with fail
  refine (AW.out _).mono ?_
  rintro e w1 ⟨rfl, g1⟩
  go_wp2
  go_ret
  exact ⟨rfl, g1⟩

set_option maxRecDepth 100000 in
theorem entries_no (s : ByteArray) (kd n : Int) (W : World) (h : s.size ≤ 100) (n0 : 0 ≤ n) (n4 : n ≤ 4) (hn : (n == 0) = true ∨ (n == 0) = false ∧ (s.size : Int) < n)
    (KE : ∀ u, Calls Try.prog 8 #[.string s, .int .i64 kd] u fun e w' => e = .returned (.tuple #[.agg #[.int .u8 0, .int .u8 0, .int .u8 0, .int .u8 0], .bool false]) ∧ u.grownBy w' none)
    (KS : ∀ u, Calls Try.prog 10 #[.int .i64 kd] u fun e w' => e = .returned (.int .i64 n) ∧ u.grownBy w' none)
    (KR : ∀ u, Calls Try.prog 9 #[.int .i64 kd] u fun e w' => e = .returned (.int .i64 n) ∧ u = w') :
    Calls Try.prog 3 #[.string s, .int .i64 kd] W fun e w' => e = .returned (.bool true) ∧ W.grownBy w' none := by
  have AW := Lib.hid (fun u => awake_calls u)
  have KE' := Lib.hid KE
  have KS' := Lib.hid KS
  have KR' := Lib.hid KR
  have h' : (s.size : Int) ≤ 100 := by omega
  have hm : s.size ≤ 9223372036854775807 := by omega
  clear KE KS KR
  rcases hn with e0 | ⟨e0, e1⟩
  all_goals
    go_enter Try.func3, Try.ntmps3
    go_wp2_with fail
    refine (KE'.out _).mono ?_
    rintro e w1 ⟨rfl, g1⟩
    have G1 := Lib.hid (gb_trans g1 (World.grownBy_alloc w1 (.cells #[.int .u8 0, .int .u8 0, .int .u8 0, .int .u8 0] 24) none))
    have HC := Lib.hid (blk_at (w := w1) (o := .cells #[.int .u8 0, .int .u8 0, .int .u8 0, .int .u8 0] 24))
    clear g1
    go_wp2_with fail
    refine (KR'.out _).mono ?_
    rintro e w' ⟨rfl, rfl⟩
    go_wp2_with fail
    refine (KS'.out _).mono ?_
    rintro e w2 ⟨rfl, g2⟩
    have C2 := old0 g2 HC.out (blk_lt HC.out) (by simp)
    have m0 : w2.cell? ⟨w1.heap.size, 0, none⟩ = some (.int .u8 0) := blk_cell C2 0
    have m1 : w2.cell? ⟨w1.heap.size, 1, none⟩ = some (.int .u8 0) := blk_cell C2 1
    have m2 : w2.cell? ⟨w1.heap.size, 2, none⟩ = some (.int .u8 0) := blk_cell C2 2
    have m3 : w2.cell? ⟨w1.heap.size, 3, none⟩ = some (.int .u8 0) := blk_cell C2 3
    have G2 := Lib.hid (gb_trans G1.out g2)
    clear g2 C2
    go_wp2_with fail
    refine (AW.out _).mono ?_
    rintro e w3 ⟨rfl, g3⟩
    go_wp2
    go_ret
    exact ⟨rfl, gb_trans G2.out g3⟩

set_option maxRecDepth 100000 in
theorem entries_yes (s : ByteArray) (kd n c0 c1 c2 c3 : Int) (W : World) (h : s.size ≤ 100) (n0 : 0 ≤ n) (n4 : n ≤ 4) (hn0 : (n == 0) = false) (hn : n ≤ (s.size : Int))
    (KE : ∀ u, Calls Try.prog 8 #[.string s, .int .i64 kd] u fun e w' => e = .returned (.tuple #[.agg #[.int .u8 c0, .int .u8 c1, .int .u8 c2, .int .u8 c3], .bool true]) ∧ u.grownBy w' none)
    (KS : ∀ u, Calls Try.prog 10 #[.int .i64 kd] u fun e w' => e = .returned (.int .i64 n) ∧ u.grownBy w' none)
    (KR : ∀ u, Calls Try.prog 9 #[.int .i64 kd] u fun e w' => e = .returned (.int .i64 n) ∧ u = w')
    (KD : ∀ u, Calls Try.prog 11 #[.string s, .int .i64 kd] u fun e w' => e = .returned (.agg #[.int .u8 c0, .int .u8 c1, .int .u8 c2, .int .u8 c3]) ∧ u.grownBy w' none) :
    Calls Try.prog 3 #[.string s, .int .i64 kd] W fun e w' => e = .returned (.bool true) ∧ W.grownBy w' none := by
  have AW := Lib.hid (fun u => awake_calls u)
  have KE' := Lib.hid KE
  have KS' := Lib.hid KS
  have KR' := Lib.hid KR
  have KD' := Lib.hid KD
  have h' : (s.size : Int) ≤ 100 := by omega
  have hm : s.size ≤ 9223372036854775807 := by omega
  clear KE KS KR KD
  go_enter Try.func3, Try.ntmps3
  go_wp2_with fail
  refine (KE'.out _).mono ?_
  rintro e w1 ⟨rfl, g1⟩
  have G1 := Lib.hid (gb_trans g1 (World.grownBy_alloc w1 (.cells #[.int .u8 c0, .int .u8 c1, .int .u8 c2, .int .u8 c3] 24) none))
  have HC := Lib.hid (blk_at (w := w1) (o := .cells #[.int .u8 c0, .int .u8 c1, .int .u8 c2, .int .u8 c3] 24))
  clear g1
  go_wp2_with fail
  refine (KR'.out _).mono ?_
  rintro e w' ⟨rfl, rfl⟩
  go_wp2_with fail
  refine (KS'.out _).mono ?_
  rintro e w2 ⟨rfl, g2⟩
  have C2 := old0 g2 HC.out (blk_lt HC.out) (by simp)
  have HC2 := Lib.hid C2
  have G2 := Lib.hid (gb_trans G1.out g2)
  have d0 : w2.cell? ⟨w1.heap.size, 0, none⟩ = some (.int .u8 c0) := blk_cell C2 0
  have d1 : w2.cell? ⟨w1.heap.size, 1, none⟩ = some (.int .u8 c1) := blk_cell C2 1
  have d2 : w2.cell? ⟨w1.heap.size, 2, none⟩ = some (.int .u8 c2) := blk_cell C2 2
  have d3 : w2.cell? ⟨w1.heap.size, 3, none⟩ = some (.int .u8 c3) := blk_cell C2 3
  clear g2 C2
  go_wp2_with fail
  go_region_held3 (fun w' => w'.cell? ⟨w1.heap.size, 0, none⟩ = some (.int .u8 c0) ∧ w'.cell? ⟨w1.heap.size, 1, none⟩ = some (.int .u8 c1) ∧ w'.cell? ⟨w1.heap.size, 2, none⟩ = some (.int .u8 c2) ∧ w'.cell? ⟨w1.heap.size, 3, none⟩ = some (.int .u8 c3)) (go_keep)
    (first | (go_at_call 11; with_reducible refine (KD'.out _).mono ?_; rintro e w3 ⟨rfl, g3o⟩; have g3 : w2.grownBy w3 none := (by first | exact gb_trans (gb_drew w2 _) g3o | exact g3o); clear g3o; have m0 : w3.cell? ⟨w1.heap.size, 0, none⟩ = some (.int .u8 c0) := g3.cell d0 (by simp); have m1 : w3.cell? ⟨w1.heap.size, 1, none⟩ = some (.int .u8 c1) := g3.cell d1 (by simp); have m2 : w3.cell? ⟨w1.heap.size, 2, none⟩ = some (.int .u8 c2) := g3.cell d2 (by simp); have m3 : w3.cell? ⟨w1.heap.size, 3, none⟩ = some (.int .u8 c3) := g3.cell d3 (by simp); have G3 := Lib.hid (gb_trans G2.out g3); clear g3) | (go_at_call 7; with_reducible refine (AW.out _).mono ?_; rintro e w4 ⟨rfl, g4⟩; have n0 : w4.cell? ⟨w1.heap.size, 0, none⟩ = some (.int .u8 c0) := g4.cell m0 (by simp); have n1 : w4.cell? ⟨w1.heap.size, 1, none⟩ = some (.int .u8 c1) := g4.cell m1 (by simp); have n2 : w4.cell? ⟨w1.heap.size, 2, none⟩ = some (.int .u8 c2) := g4.cell m2 (by simp); have n3 : w4.cell? ⟨w1.heap.size, 3, none⟩ = some (.int .u8 c3) := g4.cell m3 (by simp); have G4 := Lib.hid (gb_trans G3.out g4); clear g4))
  all_goals
    go_wp2
    go_ret
    exact ⟨rfl, G4.out⟩

theorem entries_walk (s : ByteArray) (kd : Int) (W : World) (hm : s.size ≤ 9223372036854775807) : Calls Try.prog 3 #[.string s, .int .i64 kd] W fun e w' => e = .returned (.bool true) ∧ W.grownBy w' none := by
  by_cases hl : 100 < s.size
  · exact entries_long s kd W hm hl
  · have h : s.size ≤ 100 := by omega
    have KR := fun u => rsize_calls kd u
    by_cases hk : kd < 2 ∨ 5 < kd
    · have e : sizeV kd = 0 := by unfold sizeV; rw [if_neg (by omega), if_neg (by omega)]
      simp only [e] at KR
      exact entries_no s kd 0 W h (by decide) (by decide) (.inl rfl) (fun u => entry_no s kd u hm hk) (fun u => size_no kd u hk) KR
    · obtain ⟨t, ht, hkd⟩ : ∃ t : Nat, t < 4 ∧ kd = t + 2 := ⟨(kd - 2).toNat, by omega, by omega⟩
      have KS := fun u => size_yes t kd u ht hkd
      have e : sizeV kd = szL t := by
        subst hkd
        obtain rfl | rfl | rfl | rfl : t = 0 ∨ t = 1 ∨ t = 2 ∨ t = 3 := by omega
        all_goals rfl
      simp only [e] at KR
      have z0 : 0 ≤ szL t ∧ szL t ≤ 4 ∧ 2 ≤ szL t := by
        obtain rfl | rfl | rfl | rfl : t = 0 ∨ t = 1 ∨ t = 2 ∨ t = 3 := by omega
        all_goals decide
      have hz : (szL t == 0) = false := by rw [beq_eq_false_iff_ne]; omega
      by_cases hs : (s.size : Int) < szL t
      · exact entries_no s kd (szL t) W h z0.1 z0.2.1 (.inr ⟨hz, hs⟩) (fun u => entry_short s t kd u hm ht hkd hs) KS KR
      · have hs' : szL t ≤ (s.size : Int) := by omega
        obtain rfl | rfl | rfl | rfl : t = 0 ∨ t = 1 ∨ t = 2 ∨ t = 3 := by omega
        · obtain rfl : kd = 2 := hkd
          have h2 : 2 ≤ s.size := by have : szL 0 = 2 := rfl; omega
          exact entries_yes s 2 (szL 0) _ _ _ _ W h z0.1 z0.2.1 hz hs' (fun u => entry_y0 s _ _ _ _ u hm (by omega) (fun v => packed_calls s _ _ v h2 hm rfl rfl)) KS KR (fun u => rentry_two s _ _ u h2 hm rfl rfl)
        · obtain rfl : kd = 3 := hkd
          have h3 : 3 ≤ s.size := by have : szL 1 = 3 := rfl; omega
          exact entries_yes s 3 (szL 1) _ _ _ _ W h z0.1 z0.2.1 hz hs' (fun u => entry_y1 s _ _ _ _ u hm (by omega) (fun v => opaque_calls s _ _ _ v h3 hm rfl rfl rfl)) KS KR (fun u => rentry_three s 3 _ _ _ u (.inl rfl) h3 hm rfl rfl rfl)
        · obtain rfl : kd = 4 := hkd
          have h4 : 4 ≤ s.size := by have : szL 2 = 4 := rfl; omega
          exact entries_yes s 4 (szL 2) _ _ _ _ W h z0.1 z0.2.1 hz hs' (fun u => entry_y2 s _ _ _ _ u hm (by omega) (fun v => opaque_calls s _ _ _ v (by omega) hm rfl rfl rfl)) KS KR (fun u => rentry_three s 4 _ _ _ u (.inr rfl) (by omega) hm rfl rfl rfl)
        · obtain rfl : kd = 5 := hkd
          have h4 : 4 ≤ s.size := by have : szL 3 = 4 := rfl; omega
          exact entries_yes s 5 (szL 3) _ _ _ _ W h z0.1 z0.2.1 hz hs' (fun u => entry_y3 s _ _ _ _ u hm (by omega) (fun v => whole_calls s _ _ _ _ v h4 hm rfl rfl rfl rfl)) KS KR (fun u => rentry_five s _ _ _ _ u h4 hm rfl rfl rfl rfl)

end Go.Proofs.Ytljbhahdaepecaa.Pa
