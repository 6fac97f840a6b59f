/- Layer 21: the code's Pack, walked. -/
import Derived.Test.YtafglaiclpdhnaaRw3
import Derived.Laws.MakeOwn
namespace Go.Proofs.Ytafglaiclpdhnaa.Rw
open Go.ChangeShapes Go.WideShapes Go.ChangeAt Go.RowKit
open Go.Proofs.Ytafglaiclpdhnaa.Le
set_option linter.unusedVariables false

theorem und8 : Try.prog.underlying 47 = some (.slice 5) := by kernel_rfl
theorem make_n (n : Nat) (w : World) (hn : n ≤ 1000) :
    (Instr.makeSlice 47 (.int .i64 (n : Int)) (.int .i64 (n : Int))).run Try.prog w = .ok (.slice (some ⟨w.heap.size, 0, none⟩) n n) (w.alloc (.cells (Array.replicate n (Value.int .u8 0)) 5)) := by
  have h0 : (Try.prog.info? 5).map (fun i => (i.zero, i.size, i.bytes)) = some (some (.int .u8 0), 1, 1) := by kernel_rfl
  obtain ⟨i0, hi, hz0, hz1, hz2⟩ : ∃ i : TypeInfo, Try.prog.info? 5 = some i ∧ i.zero = some (.int .u8 0) ∧ i.size = 1 ∧ i.bytes = 1 := by
    cases e : Try.prog.info? 5 with
    | none => rw [e] at h0; cases h0
    | some i =>
      rw [e] at h0
      simp only [Option.map_some, Option.some.injEq, Prod.mk.injEq] at h0
      exact ⟨i, rfl, h0.1, h0.2.1, h0.2.2⟩
  have h := run_make (P := Try.prog) w 47 5 i0 (.int .u8 0) und8 hi hz0 .i64 .i64 n n (by omega) (by omega) (by rw [hz2]; omega) (by omega)
  rw [hz1] at h
  simp only [Int.toNat_natCast] at h
  have hm : madeCells (Value.int .u8 0).cells (n * 1) = Array.replicate n (Value.int .u8 0) := by
    apply Array.toList_inj.1
    simp [madeCells, Value.cells]
    rw [List.eq_replicate_iff]
    refine ⟨by simp, ?_⟩
    intro v hv
    obtain ⟨j, _, rfl⟩ := List.mem_map.1 hv
    rw [Nat.mod_one]
    rfl
  rw [hm] at h
  exact h

set_option maxRecDepth 100000 in
set_option maxHeartbeats 2000000 in
theorem pack_calls (a : Option Addr) (b off n cap d t : Nat) (v : Nat → Int) (W : World) (hd : okD d) (hn : n ≤ 100) (ha : 0 < n → a = some ⟨b, off, none⟩) (hc : ∀ j, j < n → W.cell? ⟨b, off + j, none⟩ = some (.int .i64 (v j))) (ht : t ≤ n) (hok : ∀ j, j < t → 0 ≤ v j ∧ v j < 2 ^ d) (hstop : t = n ∨ (t < n ∧ ¬ (0 ≤ v t ∧ v t < 2 ^ d))) :
    Calls Try.prog 6 #[.slice a n cap, .int .i64 d] W fun e w' => e = .returned (.tuple (if t = n then #[.string (toT (rowL d n v (flN n d) (n * d))), .int .i64 0] else #[.string ⟨#[]⟩, .int .i64 2])) ∧ W.grownBy w' none := by
  have hd32 : 1 ≤ d ∧ d ≤ 32 := by rcases hd with h | h | h | h | h | h <;> omega
  have KI := fun u => isdepth_calls (d : Int) u
  rw [show dpI (d : Int) = true from decide_eq_true (by rcases hd with h | h | h | h | h | h <;> omega)] at KI
  have KI := Lib.hid KI
  have KF := Lib.hid (fun u => filled_calls n d u hn hd32.2)
  have hND : n * d ≤ 8 * flN n d ∧ flN n d ≤ 1000 := by
    have : n * d ≤ 100 * 32 := Nat.mul_le_mul hn hd32.2
    unfold flN
    omega
  obtain ⟨N, hN⟩ : ∃ N, flN n d = N := ⟨_, rfl⟩
  rw [hN] at KF hND ⊢
  have MK := fun w => make_n N w hND.2
  have HPUT := Lib.hid (fun c i w (hi : i < n) (hv : 0 ≤ v i ∧ v i < 2 ^ d) (hu : UR c (rowL d n v N (i * d)) w) => put_any c d n i N v w hd hi hn hND.1 hND.2 hv hu)
  have hp2 : (2 : Int) ^ d ≤ 4294967296 := by rcases hd with rfl | rfl | rfl | rfl | rfl | rfl <;> decide
  have hp0 : (0 : Int) < 2 ^ d := Int.pow_pos (by decide)
  have hsh : wrap64 (2 ^ min d 64) = 2 ^ d := by rw [show min d 64 = d by omega]; unfold wrap64; omega
  have hsh1 : wrap64 (1 * 2 ^ min d 64) = 2 ^ d := by rw [Int.one_mul]; exact hsh
  obtain ⟨pw, hpw⟩ : ∃ z : Int, 2 ^ d = z := ⟨_, rfl⟩
  rw [hpw] at hsh hsh1 hstop
  simp only [hpw] at hok HPUT
  have HC := Lib.hid hc
  have HA := Lib.hid ha
  have HOK := Lib.hid hok
  have HST := Lib.hid hstop
  have HT := Lib.hid ht
  have CONV := Lib.hid (fun c w (hu : UR c (rowL d n v N (n * d)) w) => by
    have := hu.conv (rowL_mem d n v N (n * d))
    rw [rowL_len] at this
    exact this)
  have HB := Lib.hid (show n ≤ 100 from hn)
  clear hc ha hok hstop ht hd hd32 hND hN hp2 hp0 hpw
  go_enter Try.func6, Try.ntmps6
  go_wp2_with fail
  refine (KI.out _).mono ?_
  rintro e w' ⟨rfl, rfl⟩
  go_wp2_with fail
  refine (KF.out _).mono ?_
  rintro e w' ⟨rfl, rfl⟩
  go_upto_region 4 with fail
  have U0 : UR W.heap.size (rowL d n v N 0) (W.alloc (.cells (Array.replicate N (Value.int .u8 0)) 5)) := by
    unfold UR
    rw [rowL_zero, List.map_replicate, List.toArray_replicate]
    exact blk_at
  have G0 := World.grownBy_alloc W (.cells (Array.replicate N (Value.int .u8 0)) 5) none
  obtain ⟨c, hcz⟩ : ∃ c, W.heap.size = c := ⟨_, rfl⟩
  rw [hcz] at U0 ⊢
  have HCZ := Lib.hid hcz
  generalize W.alloc (.cells (Array.replicate N (Value.int .u8 0)) 5) = w1 at U0 G0 ⊢
  have HU0 := Lib.hid U0
  have HG0 := Lib.hid G0
  clear U0 G0 hcz KI KF MK
  go_wp2_with fail
  go_loopg [19] n (fun mq iv wr => ∃ k : Nat, k ≤ t ∧ mq = n - k ∧ iv = .int .i64 k ∧ UR c (rowL d n v N (k * d)) wr ∧ W.grownBy wr none)
  case atStart => exact ⟨0, by omega, rfl, rfl, by rw [Nat.zero_mul]; exact HU0.out, HG0.out⟩
  case round =>
    obtain ⟨k, hk, rfl, rfl, J, G⟩ := hrel
    have HJ := Lib.hid J
    have HG := Lib.hid G
    clear J G HU0 HG0
    have htn := HT.out
    by_cases hkn : k = n
    · have htn2 : t = n := by omega
      have HTN := Lib.hid htn2
      subst hkn
      have cv := CONV.out c _ HJ.out
      clear htn htn2 hk
      go_wp2
      go_ret2
      exact ⟨by have h := HTN.out; subst h; first | rfl | (simp; done), HG.out⟩
    · have hkn' : (k : Int) < (n : Int) := by omega
      obtain rfl := HA.out (by omega)
      have hcell := HG.out.cell (HC.out k (by omega)) (by simp)
      have hk0 : (0 : Int) ≤ (k : Int) := by omega
      obtain ⟨x, hx⟩ : ∃ x, v k = x := ⟨_, rfl⟩
      by_cases hkt : k < t
      · have hv := HOK.out k hkt
        have KP := HPUT.out c k wr (by omega) hv HJ.out
        rw [hx] at hcell hv KP
        have d0 : decide (x < 0) = false := decide_eq_false (by omega)
        have d1 : decide (pw ≤ x) = false := decide_eq_false (by omega)
        have HKP := Lib.hid KP
        have hb := HB.out
        have hw3 : IntKind.i64.wrap ((k : Int) + 1) = ((k + 1 : Nat) : Int) := by rw [IntWalk.i64_in _ (by omega)]; omega
        clear KP hx hv
        go_wp2_with fail
        refine HKP.out.mono ?_
        rintro e u8 ⟨rfl, U8, g8⟩
        have HU8 := Lib.hid U8
        have HG8 := Lib.hid (gb_own HG.out (by have := HCZ.out; omega) g8)
        clear U8 g8
        go_wp2
        go_roundg (n - (k + 1))
        case measure => omega
        case rel => exact ⟨k + 1, by omega, rfl, by first | rfl | simp [*] | go_num, HU8.out, HG8.out⟩
      · obtain rfl : k = t := by omega
        have hs := HST.out
        have HKN := Lib.hid hkn
        rw [hx] at hcell hs
        by_cases hneg : x < 0
        · have d0 : decide (x < 0) = true := decide_eq_true hneg
          clear hs hx htn hkt hneg
          go_wp2
          go_ret2
          exact ⟨rfl, HG.out⟩
        · have d0 : decide (x < 0) = false := decide_eq_false hneg
          have d1 : decide (pw ≤ x) = true := decide_eq_true (by omega)
          clear hs hx htn hkt hneg
          go_wp2
          go_ret2
          exact ⟨rfl, HG.out⟩

end Go.Proofs.Ytafglaiclpdhnaa.Rw
