/- Layer 21: the code's Pack, walked. -/
import Derived.Test.YtafglaiclpdhnaaRw2
import Derived.Lib.SlBytesRow
namespace Go.Proofs.Ytafglaiclpdhnaa.Rw
open Go.ChangeShapes Go.WideShapes Go.ChangeAt Go.RowKit
open Go.Proofs.Ytafglaiclpdhnaa.Le
set_option linter.unusedVariables false

def dpI (d : Int) : Bool := decide (d = 1 ∨ d = 4 ∨ d = 8 ∨ d = 16 ∨ d = 24 ∨ d = 32)
theorem isdepth_calls (n : Int) (W : World) : Calls Try.prog 17 #[.int .i64 n] W fun e w' => e = .returned (.bool (dpI n)) ∧ W = w' := by
  by_cases h : n = 1 ∨ n = 4 ∨ n = 8 ∨ n = 16 ∨ n = 24 ∨ n = 32
  · rw [show dpI n = true from decide_eq_true h]
    obtain rfl | rfl | rfl | rfl | rfl | rfl := h
    all_goals
      go_enter Try.func17, Try.ntmps17
      go_wp2
      go_ret
      exact ⟨rfl, rfl⟩
  · rw [show dpI n = false from decide_eq_false h]
    have h1 : (n == 1) = false := by rw [beq_eq_false_iff_ne]; omega
    have h4 : (n == 4) = false := by rw [beq_eq_false_iff_ne]; omega
    have h8 : (n == 8) = false := by rw [beq_eq_false_iff_ne]; omega
    have h16 : (n == 16) = false := by rw [beq_eq_false_iff_ne]; omega
    have h24 : (n == 24) = false := by rw [beq_eq_false_iff_ne]; omega
    have h32 : (n == 32) = false := by rw [beq_eq_false_iff_ne]; omega
    clear h
    go_enter Try.func17, Try.ntmps17
    go_wp2
    go_ret
    exact ⟨rfl, rfl⟩
/-- How many bytes a row has. -/
def flN (n d : Nat) : Nat := (n * d + 31) / 32 * 4
theorem filled_calls (n d : Nat) (W : World) (hn : n ≤ 100) (hd : d ≤ 32) : Calls Try.prog 18 #[.int .i64 n, .int .i64 d] W fun e w' => e = .returned (.int .i64 (flN n d : Nat)) ∧ W = w' := by
  have hm : n * d ≤ 100 * 32 := Nat.mul_le_mul hn hd
  have hw1 : IntKind.i64.wrap ((n : Int) * (d : Int)) = ((n * d : Nat) : Int) := by
    rw [← Int.natCast_mul]; exact IntWalk.i64_in _ (by omega)
  obtain ⟨m, hm0⟩ : ∃ m, n * d = m := ⟨_, rfl⟩
  have e : flN n d = (m + 31) / 32 * 4 := by unfold flN; rw [hm0]
  rw [e]
  rw [hm0] at hw1 hm
  have hw2 : IntKind.i64.wrap ((m : Int) + 32) = ((m + 32 : Nat) : Int) := by rw [IntWalk.i64_in _ (by omega)]; omega
  have hw3 : IntKind.i64.wrap (((m + 32 : Nat) : Int) - 1) = ((m + 31 : Nat) : Int) := by rw [IntWalk.i64_in _ (by omega)]; omega
  have hw4 : ((m + 31 : Nat) : Int) / 32 = (((m + 31) / 32 : Nat) : Int) := by omega
  have hw5 : IntKind.i64.wrap ((((m + 31) / 32 : Nat) : Int) * 4) = (((m + 31) / 32 * 4 : Nat) : Int) := by rw [IntWalk.i64_in _ (by omega)]; omega
  have hw6 : IntKind.i64.wrap ((((m + 31) / 32 : Nat) : Int)) = (((m + 31) / 32 : Nat) : Int) := IntWalk.i64_in _ (by omega)
  obtain ⟨m32, h32⟩ : ∃ z, m + 32 = z := ⟨_, rfl⟩
  obtain ⟨m31, h31⟩ : ∃ z, m + 31 = z := ⟨_, rfl⟩
  rw [h32] at hw2 hw3
  rw [h31] at hw3 hw4 hw5 hw6 ⊢
  obtain ⟨q, hq⟩ : ∃ z, m31 / 32 = z := ⟨_, rfl⟩
  rw [hq] at hw4 hw5 hw6 ⊢
  obtain ⟨q4, hq4⟩ : ∃ z, q * 4 = z := ⟨_, rfl⟩
  rw [hq4] at hw5 ⊢
  clear hm0 e h32 h31 hq hq4 hm hn hd
  go_enter Try.func18, Try.ntmps18
  go_wp2
  go_ret
  exact ⟨by first | rfl | simp [*], rfl⟩

theorem pack_arg (s : Value) (d : Int) (W : World) (h : dpI d = false) : Calls Try.prog 6 #[s, .int .i64 d] W fun e w' => e = .returned (.tuple #[.string ⟨#[]⟩, .int .i64 1]) ∧ W = w' := by
  have K := fun u => isdepth_calls d u
  rw [h] at K
  have K := Lib.hid K
  clear h
  go_enter Try.func6, Try.ntmps6
  go_wp2_with fail
  refine (K.out _).mono ?_
  rintro e w' ⟨rfl, rfl⟩
  go_wp2
  go_ret2
  exact ⟨rfl, rfl⟩

/-- Bytes as a text. -/
def toT (L : List Int) : ByteArray := ⟨(L.map fun x => UInt8.ofNat x.toNat).toArray⟩
theorem toT_size (L : List Int) : (toT L).size = L.length := by
  show (L.map _).toArray.size = _
  simp
theorem UR.conv {c : Nat} {L : List Int} {w : World} (h : UR c L w) (hb : ∀ x, x ∈ L → 0 ≤ x ∧ x ≤ 255) : (convert 47 9 (.slice (some ⟨c, 0, none⟩) L.length L.length)).run Try.prog w = .ok (.string (toT L)) w := by
  obtain ⟨M, hM⟩ : ∃ M, (L.map fun x => UInt8.ofNat x.toNat) = M := ⟨_, rfl⟩
  have hl : L.length = M.length := by rw [← hM, List.length_map]
  have e : L.map (Value.int .u8) = M.map fun b => Value.int .u8 (b.toNat : Int) := by
    rw [← hM, List.map_map]
    apply List.map_congr_left
    intro x hx
    have := hb x hx
    show Value.int .u8 x = Value.int .u8 ((UInt8.ofNat x.toNat).toNat : Int)
    rw [UInt8.toNat_ofNat']
    congr 1
    omega
  unfold UR at h
  rw [e] at h
  have hz : (⟨M.toArray⟩ : ByteArray).size = M.length := by show M.toArray.size = _; simp
  have hc : Lib.Bytes w c 0 ⟨M.toArray⟩ := by
    intro i hi
    have hi' : i < M.length := by rw [hz] at hi; omega
    rw [blk_cell h (0 + i)]
    simp [hi']
    rfl
  have := Lib.run_convert_whole (P := Try.prog) w 47 5 9 (by kernel_rfl) (by kernel_rfl) (by kernel_rfl) c 0 ⟨M.toArray⟩ hc M.length
  rw [hz] at this
  unfold toT
  rw [hM, hl]
  exact this
theorem rowL_mem (d n : Nat) (v : Nat → Int) (N m : Nat) (x : Int) (h : x ∈ rowL d n v N m) : 0 ≤ x ∧ x ≤ 255 := by
  unfold rowL at h
  obtain ⟨j, _, rfl⟩ := List.mem_map.1 h
  exact pB_bd d n v m j
theorem rowL_zero (d n : Nat) (v : Nat → Int) (N : Nat) : rowL d n v N 0 = List.replicate N 0 := by
  unfold rowL
  apply List.ext_getElem?
  intro k
  by_cases hk : k < N
  · rw [List.getElem?_map, List.getElem?_range hk, List.getElem?_replicate, if_pos hk]
    show some (pB d n v 0 k) = some 0
    rw [pB_zero]
  · rw [List.getElem?_eq_none (by simp; omega), List.getElem?_eq_none (by simp; omega)]
theorem put_any (c d n i N : Nat) (v : Nat → Int) (W : World) (hd : okD d) (hi : i < n) (hn : n ≤ 100) (hN : n * d ≤ 8 * N) (hNb : N ≤ 1000) (hv : 0 ≤ v i ∧ v i < 2 ^ d) (h : UR c (rowL d n v N (i * d)) W) :
    Calls Try.prog 19 #[.slice (some ⟨c, 0, none⟩) N N, .int .i64 i, .int .i64 d, .int .i64 (v i)] W fun e' w' => e' = .returned (.tuple #[]) ∧ UR c (rowL d n v N ((i + 1) * d)) w' ∧ W.grownBy w' (some c) := by
  rcases hd with rfl | rfl | rfl | rfl | rfl | rfl
  · exact put_part c 1 n i N v W (.inl rfl) hi hn hN hNb hv h
  · exact put_part c 4 n i N v W (.inr rfl) hi hn hN hNb hv h
  · exact put_whole c 8 1 n i N v W rfl (by decide) hi hn hN hNb h
  · exact put_whole c 16 2 n i N v W rfl (by decide) hi hn hN hNb h
  · exact put_whole c 24 3 n i N v W rfl (by decide) hi hn hN hNb h
  · exact put_whole c 32 4 n i N v W rfl (by decide) hi hn hN hNb h

end Go.Proofs.Ytafglaiclpdhnaa.Rw
