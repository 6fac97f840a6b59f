/- Layer 6: the document's number of bits, over a slice. -/
import Derived.Test.YthgpjdnppknghaaBit6
import Derived.LoopTactic
namespace Go.Proofs.Ythgpjdnppknghaa.Bi
open Go.ChangeShapes Go.WideShapes Go.ChangeAt Go.RowKit
open Go.Proofs.Ythgpjdnppknghaa.Le Go.Proofs.Ythgpjdnppknghaa.Sr
set_option linter.unusedVariables false

theorem pow_le32 {k : Nat} (h : k ≤ 32) : 2 ^ k ≤ 4294967296 := Nat.le_trans (Nat.pow_le_pow_right (by decide) h) (by decide)

/-- The document's Number, over the bits of a stretch. -/
theorem number_calls (low : Bool) (s : ByteArray) (a b off n cap : Nat) (w : World) (hn : n ≤ 32) (hc : ∀ j, j < n → w.cell? ⟨b, off + j, none⟩ = some (.int .i64 (bitAt low s (a + j)))) :
    Calls Try.prog 20 #[.slice (some ⟨b, off, none⟩) n cap, .bool low] w fun e w' => e = .returned (.int .i64 (bitsV low s a n)) ∧ w = w' := by
  cases low with
  | false =>
    go_enter Try.func20, Try.ntmps20
    go_wp2
    go_loop [5, 7] (fun v i => ∃ k : Nat, k ≤ n ∧ i = .int .i64 k ∧ v = .int .i64 (bitsV false s a k)) (fun _ i => n - (intOf i).toNat)
    case atStart => exact ⟨0, Nat.zero_le _, rfl, rfl⟩
    case round =>
      obtain ⟨k, hk, rfl, rfl⟩ := hrel
      by_cases hlt : k < n
      · have hcell := hc k hlt
        have h1 := bitsV_lt false s a k
        have h2 := bitAt_lt false s (a + k)
        have h3 := pow_le32 (show k ≤ 32 by omega)
        have hs : bitsV false s a (k + 1) = 2 * bitsV false s a k + bitAt false s (a + k) := by simp [bitsV, joinV]; omega
        obtain ⟨x, hx⟩ : ∃ x, bitsV false s a k = x := ⟨_, rfl⟩
        obtain ⟨y, hy⟩ : ∃ y, bitAt false s (a + k) = y := ⟨_, rfl⟩
        rw [hx] at hs h1 ⊢
        rw [hy] at hs h2 hcell
        have HS := Lib.hid hs
        clear hs hx hy hc
        have h4 : x < 4294967296 := by omega
        clear h1 h3
        go_wp2
        go_round
        case rel => exact ⟨k + 1, by omega, by go_num, by rw [HS.out]; go_num⟩
        case measure => simp [intOf]; omega
      · obtain rfl : k = n := by omega
        go_wp2
        go_ret
        exact ⟨rfl, rfl⟩
  | true =>
    go_enter Try.func20, Try.ntmps20
    go_wp2
    go_loop [5, 6, 7] (fun v p i => ∃ k : Nat, k ≤ n ∧ i = .int .i64 k ∧ v = .int .i64 (bitsV true s a k) ∧ p = .int .i64 ((2 ^ k : Nat) : Int)) (fun _ _ i => n - (intOf i).toNat)
    case atStart => exact ⟨0, Nat.zero_le _, rfl, rfl, rfl⟩
    case round =>
      obtain ⟨k, hk, rfl, rfl, rfl⟩ := hrel
      by_cases hlt : k < n
      · have hcell := hc k hlt
        have h1 := bitsV_lt true s a k
        have h2 := bitAt_lt true s (a + k)
        have h3 := pow_le32 (show k ≤ 32 by omega)
        have hs : bitsV true s a (k + 1) = bitsV true s a k + bitAt true s (a + k) * 2 ^ k := by simp [bitsV, joinV]
        have hp : (2 : Nat) ^ (k + 1) = 2 * 2 ^ k := by rw [Nat.pow_succ]; omega
        obtain ⟨x, hx⟩ : ∃ x, bitsV true s a k = x := ⟨_, rfl⟩
        obtain ⟨y, hy⟩ : ∃ y, bitAt true s (a + k) = y := ⟨_, rfl⟩
        obtain ⟨z, hz⟩ : ∃ z, 2 ^ k = z := ⟨_, rfl⟩
        rw [hx] at hs h1 ⊢
        rw [hy] at hs h2 hcell
        rw [hz] at hs h1 h3 hp ⊢
        have HS := Lib.hid hs
        have HP := Lib.hid hp
        clear hs hx hy hz hc hp
        have h4 : y = 0 ∨ y = 1 := by omega
        clear h2
        rcases h4 with rfl | rfl
        · go_wp2
          go_round
          case rel => exact ⟨k + 1, by omega, by go_num, by rw [HS.out]; go_num, by rw [HP.out]; go_num⟩
          case measure => simp [intOf]; omega
        · go_wp2
          go_round
          case rel => exact ⟨k + 1, by omega, by go_num, by rw [HS.out]; go_num, by rw [HP.out]; go_num⟩
          case measure => simp [intOf]; omega
      · obtain rfl : k = n := by omega
        go_wp2
        go_ret
        exact ⟨rfl, rfl⟩

end Go.Proofs.Ythgpjdnppknghaa.Bi
