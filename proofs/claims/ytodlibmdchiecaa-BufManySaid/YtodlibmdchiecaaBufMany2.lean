/- The law BufMany, walked. -/
import Derived.Test.YtodlibmdchiecaaBufMany1
import Derived.Deep.RegionWith
namespace Go.Proofs.Ytodlibmdchiecaa.Bu
open Go.ChangeShapes Go.WideShapes Go.ChangeAt Go.RowKit
open Go.Proofs.Ytodlibmdchiecaa.Le
set_option linter.unusedVariables false

theorem rowP : (Try.prog.info? 27).map (fun i => (i.zero, i.size, i.bytes)) = some (some (.pointer none), 1, 8) := by kernel_rfl
theorem rowB : (Try.prog.info? 4).map (fun i => (i.zero, i.size, i.bytes)) = some (some (.bool false), 1, 1) := by kernel_rfl
theorem undP : Try.prog.underlying 45 = some (.slice 27) := by kernel_rfl
theorem undB : Try.prog.underlying 46 = some (.slice 4) := by kernel_rfl

theorem madeB (n : Nat) : madeCells (Value.bool false).cells (n * 1) = bools noneOf n := by
  apply Array.toList_inj.1
  simp [madeCells, bools, noneOf, Value.cells]
  intro a _
  rw [Nat.mod_one]
  rfl
theorem makeB (n : Nat) (hn : n ≤ 20) (w : World) :
    (Instr.makeSlice 46 (.int .i64 (n : Int)) (.int .i64 (n : Int))).run Try.prog w = .ok (.slice (some ⟨w.heap.size, 0, none⟩) n n) (w.alloc (.cells (bools noneOf n) 4)) := by
  obtain ⟨i0, hi, hz0, hz1, hz2⟩ := info_parts rowB
  have h := run_make (P := Try.prog) w 46 4 i0 (.bool false) undB hi hz0 .i64 .i64 n n (by omega) (by omega) (by rw [hz2]; omega) (by omega)
  rw [hz1] at h
  simp only [Int.toNat_natCast] at h
  rw [madeB] at h
  exact h

set_option maxRecDepth 100000 in
theorem many_far (a0 a1 : Option Addr) (n c n1 c1 : Nat) (W : World) (h : 20 < n ∨ 40 < n1) (b1 : n ≤ 9223372036854775807) (b2 : n1 ≤ 9223372036854775807) :
    Calls Try.prog 5 #[.slice a0 n c, .slice a1 n1 c1] W fun e w' => e = .returned (.bool true) ∧ W.grownBy w' none := by
  by_cases h20 : 20 < n
  · clear h
    go_enter Try.func5, Try.ntmps5
    go_wp2_with fail
    refine (awake_calls _).mono ?_
    rintro e w3 ⟨rfl, g3⟩
    have G3 := Lib.hid g3
    clear g3
    go_wp2
    go_ret
    exact ⟨rfl, G3.out⟩
  · have h40 : 40 < n1 := by omega
    clear h
    go_enter Try.func5, Try.ntmps5
    go_wp2_with fail
    refine (awake_calls _).mono ?_
    rintro e w3 ⟨rfl, g3⟩
    have G3 := Lib.hid g3
    clear g3
    go_wp2
    go_ret
    exact ⟨rfl, G3.out⟩

set_option maxRecDepth 100000 in
set_option maxHeartbeats 2000000 in
theorem many_walk (a0 a1 : Option Addr) (p0 o0 n c p1 o1 n1 c1 : Nat) (Z X : Nat → Nat) (W : World) (h0 : 0 < n → a0 = some ⟨p0, o0, none⟩) (h1 : 0 < n1 → a1 = some ⟨p1, o1, none⟩)
    (hn : n ≤ 20) (hn1 : n1 ≤ 40) (hc : ∀ i, i < n → W.cell? ⟨p0, o0 + i, none⟩ = some (.int .u8 (Z i)) ∧ Z i ≤ 255) (hd : ∀ i, i < n1 → W.cell? ⟨p1, o1 + i, none⟩ = some (.int .u8 (X i)) ∧ X i ≤ 255) :
    Calls Try.prog 5 #[.slice a0 n c, .slice a1 n1 c1] W fun e w' => e = .returned (.bool true) ∧ W.grownBy w' none := by
  have HC := Lib.hid hc
  have HD := Lib.hid hd
  have H0 := Lib.hid h0
  have H1 := Lib.hid h1
  obtain ⟨i0, hi, hz0, hz1, hz2⟩ := info_parts rowP
  have HI0 := Lib.hid hi
  have HZ0 := Lib.hid hz0
  have HZ1 := Lib.hid hz1
  have HZ2 := Lib.hid hz2
  have hmk := fun w => makeB n hn w
  clear hc hd h0 h1 hi hz0 hz1 hz2
  go_enter Try.func5, Try.ntmps5
  go_wp2_with fail
  refine (new_k 10000 (by decide) (by decide) _).mono ?_
  rintro e w0 ⟨l, rfl, L0, g0, hl⟩
  have J0 := Lib.hid (show M1 W l Z 0 (.slice none 0 0) 0 (fun _ => 0) (fun _ => 0) w0 from
    ⟨fun j hj => by omega, fun i j hi => by omega, fun j hj => by omega, World.ownsRow_nil _ _ _ _, L0, rfl, g0⟩)
  have hl' := hl
  clear L0 g0 hl
  go_wp2_with fail
  go_loopg [6, 7, 29] n (fun q av kv iv wr => ∃ (k : Nat) (B G : Nat → Nat) (K : Int), k ≤ n ∧ q = n - k ∧ kv = .int .i64 K ∧ iv = .int .i64 k ∧ M1 W l Z k av K B G wr)
  case atStart => exact ⟨0, _, _, _, Nat.zero_le _, rfl, rfl, rfl, J0.out⟩
  case round =>
    obtain ⟨k, B, G, K, hk, rfl, rfl, rfl, I⟩ := hrel
    have HI := Lib.hid I
    clear I J0
    by_cases hlt : k < n
    · obtain rfl := H0.out (by omega)
      have c0 := HI.out.grown.cell (HC.out k hlt).1 (by simp)
      have z1 := (HC.out k hlt).2
      have kz := HI.out.kz
      have kl := left_le Z noneOf k (fun j hj => (HC.out j (by omega)).2)
      have K0 : 0 ≤ K := by omega
      have K1 : K + (Z k : Nat) ≤ 10000 := by omega
      obtain ⟨z, hz⟩ : ∃ z, Z k = z := ⟨_, rfl⟩
      rw [hz] at c0 z1 K1
      have HZ := Lib.hid hz
      clear kz kl hz
      go_wp2_with fail
      refine (make_k l 10000 K z wr HI.out.keep (by omega) K1).mono ?_
      rintro e w2 ⟨b, g, rfl, ⟨BO, KK⟩, gr, hb, hg⟩
      rw [← HZ.out] at BO KK
      obtain ⟨op2, row2, gr2⟩ := HI.out.made (b := b) (g := g) hl' KK gr
      have HBO := Lib.hid BO
      have HKK := Lib.hid KK
      have HGR := Lib.hid gr
      have HROW := Lib.hid row2
      have hs2 := gr2.size
      clear BO KK gr op2 row2 gr2 hg
      go_wp2_with (at_builtin; refine wpList_append_own _ rfl (.tmp 46) (.tmp 48) 45 rfl W.heap.size 27 i0 (.pointer none) 1 8 undP HI0.out HZ0.out HZ1.out HZ2.out rfl (by decide) _ k (ptrs B k) rfl (HROW.out.alloc _) ⟨w2.heap.size, 0, none⟩ 1 1 [.pointer (some ⟨b, 0, none⟩)] rfl rfl ?c1 ?c2 ?c3 ?c4 ?c5 ?_)
      case c1 =>
        intro j u hu
        have hj0 : j = 0 := by
          rcases Nat.eq_zero_or_pos j with h | h
          · exact h
          · rw [List.getElem?_eq_none (by simp; omega)] at hu
            cases hu
        subst hj0
        have hu' : u = .pointer (some ⟨b, 0, none⟩) := by simpa using hu.symm
        subst hu'
        have hb1 := blk_cell (blk_at (w := w2) (o := .cells #[.pointer (some ⟨b, 0, none⟩)] 27)) 0
        exact hb1
      case c2 => intro u hu; simp at hu; subst hu; rfl
      case c3 => unfold maxLen; omega
      case c4 => omega
      case c5 => rw [size_alloc]; omega
      intro v' w3 hown' hgrow _
      obtain ⟨B', G', J⟩ := HI.out.step hl' HBO.out HKK.out HGR.out hb hown' hgrow
      rw [HZ.out] at J
      have HJ := Lib.hid J
      clear J hown' hgrow HI HBO HKK HGR HROW hb hs2 HZ HI0 HZ0 HZ1 HZ2
      go_wp2_with fail
      go_roundg (n - (k + 1))
      case measure => omega
      case rel => exact ⟨k + 1, B', G', K + z, by omega, rfl, rfl, by go_num, HJ.out⟩
    · have hkn : k = n := by omega
      subst hkn
      obtain ⟨ao, cap, r, cur, hav, har, hrow, hcur⟩ := row_open HI.out.row
      subst hav
      have inj := HI.out.inj
      have bb := HI.out.bb
      have HINJ := Lib.hid inj
      have HBB := Lib.hid bb
      have HAR := Lib.hid har
      have HCUR := Lib.hid hcur
      have J := HI.out.done hrow
      have hq0 := HI.out.grown.size
      obtain ⟨q, hq⟩ : ∃ q, wr.heap.size = q := ⟨_, rfl⟩
      rw [hq] at J hq0
      have HJ := Lib.hid J
      have HQ := Lib.hid hq
      clear inj bb har hcur J hrow HI hq HI0 HZ0 HZ1 HZ2
      go_wp2_with fail
      simp only [HQ.out]
      clear hmk HQ
      go_loopg [7, 60] n1 (fun x kv iv wr => ∃ (j : Nat) (D : Nat → Bool) (K : Int), j ≤ n1 ∧ x = n1 - j ∧ kv = .int .i64 K ∧ iv = .int .i64 j ∧ M2 W l q r cur Z k B G D D K wr)
      case atStart => exact ⟨0, _, _, Nat.zero_le _, rfl, rfl, rfl, HJ.out⟩
      case round =>
        obtain ⟨j, D, K, hj, rfl, rfl, rfl, I⟩ := hrel
        have HI := Lib.hid I
        clear I HJ
        have kz := HI.out.kz
        have kl := left_le Z D k (fun j hj => (HC.out j (by omega)).2)
        have K0 : 0 ≤ K := by omega
        have K1 : K ≤ 10000 := by omega
        clear kz kl
        have KB := Lib.hid (m_bytes HI.out)
        by_cases hlt : j < n1
        · obtain rfl := H1.out (by omega)
          have d0 := HI.out.grown.cell (HD.out j hlt).1 (by simp)
          obtain ⟨x, hx⟩ : ∃ x, X j = x := ⟨_, rfl⟩
          have x1 := (HD.out j hlt).2
          rw [hx] at d0 x1
          clear hx
          by_cases hn0 : k = 0
          · subst hn0
            go_wp2_with (go_at_call 12; refine KB.out.mono ?_; rintro e w' ⟨rfl, rfl⟩)
            refine (awake_calls _).mono ?_
            rintro e w3 ⟨rfl, g3⟩
            have G3 := Lib.hid (gb_trans HI.out.grown g3)
            clear g3
            go_wp2
            go_ret
            exact ⟨rfl, G3.out⟩
          · have hk0 : 1 ≤ k := by omega
            obtain rfl := HAR.out (by omega)
            obtain rfl := H0.out (by omega)
            go_wp2_with fail
            have hmod : ((x : Int) % (k : Int)) = ((x % k : Nat) : Int) := by omega
            have him : x % k < k := Nat.mod_lt _ (by omega)
            obtain ⟨i, hi⟩ : ∃ i, x % k = i := ⟨_, rfl⟩
            rw [hi] at hmod him
            simp only [hmod]
            clear hmod hi d0
            have cr := (blk_cell (HI.out.row (by omega)) i).trans (HCUR.out i him)
            obtain ⟨z, hz⟩ : ∃ z, Z i = z := ⟨_, rfl⟩
            have zi := (HC.out i him).2
            rw [hz] at zi
            have HZ := Lib.hid hz
            have cq := (blk_cell HI.out.gone i).trans (bools_at D k i him)
            clear KB hz
            cases hDi : D i with
            | true =>
              rw [hDi] at cq
              have KF := Lib.hid (m_again (HI.out.go (gb_drew wr none)) i him hDi)
              have HDi := Lib.hid hDi
              clear hDi
              go_region_with (go_at_call 15; refine KF.out.mono ?_; rintro e w3 ⟨rfl, J⟩; have HJ := Lib.hid J; have cq3 := (blk_cell J.gone i).trans (bools_at D k i him); rw [HDi.out] at cq3; have fq3 := blk_free J.gone i; clear J)
              all_goals
                clear cq cr KF HI
                have HM := Lib.hid (HJ.out.mark hq0 i)
                have KB := Lib.hid (m_bytes HM.out)
                clear HJ
                go_wp2_with (go_at_call 12; refine KB.out.mono ?_; rintro e w' ⟨rfl, rfl⟩)
                go_roundg (n1 - (j + 1))
                case measure => omega
                case rel =>
                  have J := HM.out
                  rw [upd_same D i HDi.out] at J
                  exact ⟨j + 1, D, K, by omega, rfl, rfl, by go_num, J⟩
            | false =>
              rw [hDi] at cq
              have KF := Lib.hid (m_free (HI.out.go (gb_drew wr none)) HINJ.out HBB.out hl' i him hDi)
              have HDi := Lib.hid hDi
              clear hDi
              go_region_with (go_at_call 15; refine KF.out.mono ?_; rintro e w3 ⟨rfl, J⟩; have HJ := Lib.hid J; have cq3 := (blk_cell J.gone i).trans (bools_at D k i him); rw [HDi.out] at cq3; have fq3 := blk_free J.gone i; have cz := J.grown.cell (HC.out i him).1 (by simp); rw [HZ.out] at cz; clear J)
              all_goals
                clear cq cr KF HI
                have M := HJ.out.mark hq0 i
                rw [HZ.out] at M
                have HM := Lib.hid M
                have KB := Lib.hid (m_bytes HM.out)
                clear HJ M
                go_wp2_with (go_at_call 12; refine KB.out.mono ?_; rintro e w' ⟨rfl, rfl⟩)
                go_roundg (n1 - (j + 1))
                case measure => omega
                case rel => exact ⟨j + 1, upd D i, K - z, by omega, rfl, rfl, by go_num, HM.out⟩
        · have hjn : j = n1 := by omega
          subst hjn
          go_wp2_with (go_at_call 12; refine KB.out.mono ?_; rintro e w' ⟨rfl, rfl⟩)
          refine (awake_calls _).mono ?_
          rintro e w3 ⟨rfl, g3⟩
          have G3 := Lib.hid (gb_trans HI.out.grown g3)
          clear g3
          go_wp2
          go_ret
          exact ⟨rfl, G3.out⟩

end Go.Proofs.Ytodlibmdchiecaa.Bu
