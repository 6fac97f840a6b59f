/- Layer 10: PaletteNew, walked. -/
import Derived.Test.YtljbhahdaepecaaPalH
namespace Go.Proofs.Ytljbhahdaepecaa.Pa
open Go.ChangeShapes Go.WideShapes Go.ChangeAt Go.RowKit
open Go.Proofs.Ytljbhahdaepecaa.Sc Go.Proofs.Ytljbhahdaepecaa.Le
set_option linter.unusedVariables false

theorem plen_calls (p b : Nat) (n : Int) (W : World) (h : W.heap[p]? = some (.cells (palCells b n) 82 (0, 0))) :
    Calls Try.prog 19 #[.pointer (some ⟨p, 0, none⟩)] W fun e w' => e = .returned (.int .i64 n) ∧ W = w' := by
  have c1 : W.cell? ⟨p, 1, none⟩ = some (.int .i64 n) := blk_cell h 1
  clear h
  go_enter Try.func19, Try.ntmps19
  go_wp2
  go_ret
  exact ⟨rfl, rfl⟩

theorem pos_lt {p a : Int} (h : 1 ≤ a) : pos p < a ↔ p < a := by unfold pos; split <;> omega
theorem take_bad (m n : Int) (n1 : 1 ≤ n) (h : m < n) : ((St.new 0 0 m 0).take n).2 = false := by
  unfold St.take
  have y : n < 0 ∨ (St.new 0 0 m 0).b - (St.new 0 0 m 0).by_ < n := Or.inr (by
    have := (pos_lt n1).2 h
    show pos m - 0 < n
    omega)
  rw [if_neg (show ¬ (St.new 0 0 m 0).r ≠ 0 from fun h => h rfl), if_pos y]
theorem take_ok (m n : Int) (n1 : 1 ≤ n) (h : n ≤ m) : ((St.new 0 0 m 0).take n).2 = true ∧ ((St.new 0 0 m 0).take n).1.ls.by_ = n := by
  unfold St.take
  have y : ¬ (n < 0 ∨ (St.new 0 0 m 0).b - (St.new 0 0 m 0).by_ < n) := by
    rintro (h' | h')
    · omega
    · have h2 : pos m - 0 < n := h'
      have := (pos_lt (p := m) n1).1 (by omega)
      omega
  rw [if_neg (show ¬ (St.new 0 0 m 0).r ≠ 0 from fun h => h rfl), if_neg y]
  exact ⟨rfl, by show (0 : Int) + n = n; omega⟩

set_option maxRecDepth 100000 in
theorem pnew_range (m most : Int) (W : World) (h : most < 1 ∨ 65536 < most) : Calls Try.prog 5 #[.int .i64 m, .int .i64 most] W fun e w' => e = .returned (.bool true) ∧ W.grownBy w' none := by
  have KN := Lib.hid (fun u => new_calls 0 0 m 0 u)
  have KR := Lib.hid (fun l u => new_range l most u h)
  have KA := Lib.hid (fun u => new_arg most u)
  have AW := Lib.hid (fun u => awake_calls u)
  have hc : (decide (most < 1) = true) ∨ (decide (most < 1) = false ∧ 65536 < most) := by
    by_cases h1 : most < 1
    · exact .inl (decide_eq_true h1)
    · exact .inr ⟨decide_eq_false h1, by omega⟩
  clear h
  rcases hc with h1 | ⟨h1, h2⟩
  all_goals
    go_enter Try.func5, Try.ntmps5
    go_wp2_with fail
    refine (KN.out _).mono ?_
    rintro e w1 ⟨l, rfl, hl, g1, hs⟩
    have G1 := Lib.hid g1
    clear hl g1 hs
    go_wp2_with fail
    refine (KR.out _ _).mono ?_
    rintro e w' ⟨rfl, rfl⟩
    go_wp2_with fail
    refine (KA.out _).mono ?_
    rintro e w' ⟨rfl, rfl⟩
    go_wp2_with fail
    refine (AW.out _).mono ?_
    rintro e w2 ⟨rfl, g2⟩
    go_wp2
    go_ret
    exact ⟨rfl, gb_trans G1.out g2⟩

set_option maxRecDepth 100000 in
theorem pnew_spent (m : Int) (most : Nat) (W : World) (m1 : m ≤ 9223372036854775807) (h1 : 1 ≤ most) (h2 : most ≤ 65536) (h : m < ((4 * most : Nat) : Int)) : Calls Try.prog 5 #[.int .i64 m, .int .i64 most] W fun e w' => e = .returned (.bool true) ∧ W.grownBy w' none := by
  have KN := Lib.hid (fun u => new_calls 0 0 m 0 u)
  have KS := Lib.hid (fun l u (hl : Led l (St.new 0 0 m 0).ls u) => new_spent l (St.new 0 0 m 0) most u hl (St.new_ok (by decide) (by decide) m1 (by decide)) h1 h2 (take_bad m _ (by omega) h))
  have KA := Lib.hid (fun u => new_arg most u)
  have AW := Lib.hid (fun u => awake_calls u)
  have h' : m < 4 * (most : Int) := by omega
  have a1 : (1 : Int) ≤ most := by omega
  have a2 : (most : Int) ≤ 65536 := by omega
  clear h
  go_enter Try.func5, Try.ntmps5
  go_wp2_with fail
  refine (KN.out _).mono ?_
  rintro e w1 ⟨l, rfl, hl, g1, hs⟩
  have G1 := Lib.hid g1
  have KSl := Lib.hid (KS.out l w1 hl)
  clear hl g1
  go_wp2_with fail
  refine KSl.out.mono ?_
  rintro e w2 ⟨rfl, _, g2⟩
  have G2 := Lib.hid (gb_own G1.out hs g2)
  clear g2
  go_wp2_with fail
  refine (KA.out _).mono ?_
  rintro e w' ⟨rfl, rfl⟩
  go_wp2_with fail
  refine (AW.out _).mono ?_
  rintro e w3 ⟨rfl, g3⟩
  go_wp2
  go_ret
  exact ⟨rfl, gb_trans G2.out g3⟩

set_option maxRecDepth 100000 in
theorem pnew_yes (m : Int) (most : Nat) (W : World) (m1 : m ≤ 9223372036854775807) (h1 : 1 ≤ most) (h2 : most ≤ 65536) (h : ((4 * most : Nat) : Int) ≤ m) : Calls Try.prog 5 #[.int .i64 m, .int .i64 most] W fun e w' => e = .returned (.bool true) ∧ W.grownBy w' none := by
  obtain ⟨t1, t2⟩ := take_ok m ((4 * most : Nat) : Int) (by omega) h
  have KN := Lib.hid (fun u => new_calls 0 0 m 0 u)
  have KS := Lib.hid (fun l u (hl : Led l (St.new 0 0 m 0).ls u) => new_yes l (St.new 0 0 m 0) most u hl (St.new_ok (by decide) (by decide) m1 (by decide)) h1 h2 t1)
  have KA := Lib.hid (fun u => new_arg most u)
  have AW := Lib.hid (fun u => awake_calls u)
  have T2 := Lib.hid t2
  have h' : 4 * (most : Int) ≤ m := by omega
  have a1 : (1 : Int) ≤ most := by omega
  have a2 : (most : Int) ≤ 65536 := by omega
  clear h t1 t2
  go_enter Try.func5, Try.ntmps5
  go_wp2_with fail
  refine (KN.out _).mono ?_
  rintro e w1 ⟨l, rfl, hl, g1, hs⟩
  have G1 := Lib.hid g1
  have KSl := Lib.hid (KS.out l w1 hl)
  clear hl g1
  go_wp2_with fail
  refine KSl.out.mono ?_
  rintro e w2 ⟨p, b, g, rfl, ⟨hp, _, hL⟩, g2, _⟩
  have G2 := Lib.hid (gb_own G1.out hs g2)
  have KL := Lib.hid (plen_calls p b 0 w2 hp)
  have KB := bytes_calls l _ w2 hL
  rw [T2.out, show ((4 * most : Nat) : Int) = 4 * (most : Int) from by omega] at KB
  have KB' := Lib.hid KB
  clear g2 hp hL KB
  go_wp2_with fail
  refine (KA.out _).mono ?_
  rintro e w' ⟨rfl, rfl⟩
  go_wp2_with fail
  refine KL.out.mono ?_
  rintro e w' ⟨rfl, rfl⟩
  go_wp2_with fail
  refine KB'.out.mono ?_
  rintro e w' ⟨rfl, rfl⟩
  go_wp2_with fail
  refine (AW.out _).mono ?_
  rintro e w3 ⟨rfl, g3⟩
  go_wp2
  go_ret
  exact ⟨rfl, gb_trans G2.out g3⟩

theorem pnew_walk (m most : Int) (W : World) (m1 : m ≤ 9223372036854775807) : Calls Try.prog 5 #[.int .i64 m, .int .i64 most] W fun e w' => e = .returned (.bool true) ∧ W.grownBy w' none := by
  by_cases h : most < 1 ∨ 65536 < most
  · exact pnew_range m most W h
  · obtain ⟨n, rfl⟩ : ∃ n : Nat, most = n := ⟨most.toNat, by omega⟩
    by_cases h4 : m < ((4 * n : Nat) : Int)
    · exact pnew_spent m n W m1 (by omega) (by omega) h4
    · exact pnew_yes m n W m1 (by omega) (by omega) (by omega)

end Go.Proofs.Ytljbhahdaepecaa.Pa
