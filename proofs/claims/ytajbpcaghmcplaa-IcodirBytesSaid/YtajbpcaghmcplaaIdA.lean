/- Layer 24: Bytes (written by wip/gen/id8.py). -/
import Derived.Test.YtajbpcaghmcplaaId9
import Derived.Laws.EntriesVeiled
import Derived.Lib.SlBytesRow
namespace Go.Proofs.Ytajbpcaghmcplaa.Id
open Go.ChangeShapes Go.WideShapes Go.ChangeAt Go.RowKit
open Go.Proofs.Ytajbpcaghmcplaa.Le Go.Proofs.Ytajbpcaghmcplaa.Sr Go.Proofs.Ytajbpcaghmcplaa.Dh
set_option linter.unusedVariables false

/-- A slice of entries in memory. -/
def EnsAt (b off len : Nat) (E : Nat → Nat → Int) (w : World) : Prop := ∀ i, i < len → ∀ j, j < 6 → w.cell? ⟨b, off + i * 6 + j, none⟩ = some (.int .i64 (E i j))
theorem EnsAt.grown {b off len : Nat} {E : Nat → Nat → Int} {w w' : World} (h : EnsAt b off len E w) (g : w.grownBy w' none) : EnsAt b off len E w' := fun i hi j hj => g.cell (h i hi j hj) (by simp)
/-- May the entry be written? -/
def ftE (e : Nat → Int) : Bool := ftB (e 0) (e 1) (e 2) (e 3) (e 4) (e 5)
theorem ft_nat {e : Nat → Int} (h : ftE e = true) : ∃ w h a b s p : Nat, e 0 = w ∧ e 1 = h ∧ e 2 = a ∧ e 3 = b ∧ e 4 = s ∧ e 5 = p ∧ 1 ≤ w ∧ w ≤ 256 ∧ 1 ≤ h ∧ h ≤ 256 ∧ a < 65536 ∧ b < 65536 ∧ s < 4294967296 ∧ p < 4294967296 := by
  unfold ftE ftB sdB nmB at h
  simp only [Bool.and_eq_true, decide_eq_true_eq] at h
  exact ⟨(e 0).toNat, (e 1).toNat, (e 2).toNat, (e 3).toNat, (e 4).toNat, (e 5).toNat, by omega, by omega, by omega, by omega, by omega, by omega, by omega, by omega, by omega, by omega, by omega, by omega, by omega, by omega⟩

/-- The first six bytes. -/
def hdF (cu : Bool) (n : Nat) : Nat → Nat := puF (puF (fun _ => 0) 2 (if cu then 2 else 1) 2) 4 n 2
/-- An entry's bytes, by itself. -/
def enB (e : Nat → Int) (j : Nat) : Nat := enF (fun _ => 0) 0 (e 0).toNat (e 1).toNat (e 2).toNat (e 3).toNat (e 4).toNat (e 5).toNat j
/-- All bytes, with the first i entries put. -/
def dirF (cu : Bool) (n : Nat) (E : Nat → Nat → Int) (i k : Nat) : Nat := if k < 6 then hdF cu n k else if k < 6 + 16 * i then enB (E ((k - 6) / 16)) ((k - 6) % 16) else 0
theorem dirF_step (cu : Bool) (n : Nat) (E : Nat → Nat → Int) (i : Nat) (k : Nat) : enF (dirF cu n E i) (6 + 16 * i) (E i 0).toNat (E i 1).toNat (E i 2).toNat (E i 3).toNat (E i 4).toNat (E i 5).toNat k = dirF cu n E (i + 1) k := by
  by_cases hk : 6 + 16 * i ≤ k ∧ k < 6 + 16 * i + 16
  · obtain ⟨j, hj⟩ : ∃ j, k = 6 + 16 * i + j := ⟨k - (6 + 16 * i), by omega⟩
    subst hj
    rw [enF_in _ _ _ _ _ _ _ _ _ (by unfold dirF; rw [if_neg (by omega), if_neg (by omega)])]
    unfold dirF
    rw [if_neg (by omega), if_pos (by omega), show (6 + 16 * i + j - 6) / 16 = i from by omega, show (6 + 16 * i + j - 6) % 16 = j from by omega]
    rfl
  · rw [enF_out _ _ _ _ _ _ _ _ _ hk]
    unfold dirF
    by_cases h6 : k < 6
    · rw [if_pos h6, if_pos h6]
    · rw [if_neg h6, if_neg h6]
      by_cases h7 : k < 6 + 16 * i
      · rw [if_pos h7, if_pos (by omega)]
      · rw [if_neg h7, if_neg (by omega)]
theorem hd_start (cu : Bool) (n : Nat) (E : Nat → Nat → Int) (k : Nat) : hdF cu n k = dirF cu n E 0 k := by
  unfold dirF
  by_cases h6 : k < 6
  · rw [if_pos h6]
  · rw [if_neg h6, if_neg (by omega)]
    unfold hdF
    rw [puF_out _ _ _ _ _ (by omega), puF_out _ _ _ _ _ (by omega)]
theorem byF_lt (v j : Nat) : byF v j < 256 := Nat.mod_lt _ (by decide)
theorem puF_lt (f : Nat → Nat) (off v n k : Nat) (h : f k < 256) : puF f off v n k < 256 := by
  unfold puF
  split
  · exact byF_lt _ _
  · exact h
theorem enF_lt (f : Nat → Nat) (off w h a b s p k : Nat) (hk : f k < 256) : enF f off w h a b s p k < 256 := by
  unfold enF
  exact puF_lt _ _ _ _ _ (puF_lt _ _ _ _ _ (puF_lt _ _ _ _ _ (puF_lt _ _ _ _ _ (puF_lt _ _ _ _ _ (puF_lt _ _ _ _ _ hk)))))
theorem dirF_lt (cu : Bool) (n : Nat) (E : Nat → Nat → Int) (i k : Nat) : dirF cu n E i k < 256 := by
  unfold dirF
  split
  · exact puF_lt _ _ _ _ _ (puF_lt _ _ _ _ _ (by decide))
  · split
    · exact enF_lt _ _ _ _ _ _ _ _ _ (by decide)
    · decide

/-- N bytes as a text. -/
def txF (N : Nat) (f : Nat → Nat) : ByteArray := ⟨((List.range N).map (fun k => UInt8.ofNat (f k))).toArray⟩
theorem txF_size (N : Nat) (f : Nat → Nat) : (txF N f).size = N := by
  unfold txF
  show Array.size _ = N
  simp
theorem txF_bn (N : Nat) (f : Nat → Nat) (k : Nat) (hk : k < N) (h : f k < 256) : bn (txF N f) k = f k := by
  unfold bn txF
  simp only [List.getD_eq_getElem?_getD, List.getElem?_map, List.getElem?_range hk, Option.map_some, Option.getD_some]
  rw [UInt8.toNat_ofNat']
  omega
theorem Bk.conv {g N : Nat} {f : Nat → Nat} {w : World} (hb : Bk g N f w) (h : ∀ k, k < N → f k < 256) (cap : Nat) :
    (convert 90 9 (.slice (some ⟨g, 0, none⟩) N cap)).run Try.prog w = .ok (.string (txF N f)) w := by
  have hc : Lib.Bytes w g 0 (txF N f) := by
    intro i hi
    have hiN : i < N := by rw [txF_size] at hi; exact hi
    rw [Nat.zero_add, hb.cell i hiN]
    have := txF_bn N f i hiN (h i hiN)
    rw [← bn_at _ _ hi] at this
    rw [this]
  have := Lib.run_convert_whole (P := Try.prog) w 90 5 9 (by kernel_rfl) (by kernel_rfl) (by kernel_rfl) g 0 (txF N f) hc cap
  rwa [txF_size] at this

theorem make_z (n : Nat) (w : World) (hn : n ≤ 2000000) :
    (Instr.makeSlice 90 (.int .i64 (n : Int)) (.int .i64 (n : Int))).run Try.prog w = .ok (.slice (some ⟨w.heap.size, 0, none⟩) n n) (w.alloc (.cells (Array.replicate n (Value.int .u8 0)) 5)) := by
  have h0 : (Try.prog.info? 5).map (fun i => (i.zero, i.size, i.bytes)) = some (some (.int .u8 0), 1, 1) := by kernel_rfl
  obtain ⟨i0, hi, hz0, hz1, hz2⟩ : ∃ i : TypeInfo, Try.prog.info? 5 = some i ∧ i.zero = some (.int .u8 0) ∧ i.size = 1 ∧ i.bytes = 1 := by
    cases e : Try.prog.info? 5 with
    | none => rw [e] at h0; cases h0
    | some i =>
      rw [e] at h0
      simp only [Option.map_some, Option.some.injEq, Prod.mk.injEq] at h0
      exact ⟨i, rfl, h0.1, h0.2.1, h0.2.2⟩
  have h := run_make (P := Try.prog) w 90 5 i0 (.int .u8 0) (by kernel_rfl) hi hz0 .i64 .i64 n n (by omega) (by omega) (by rw [hz2]; omega) (by omega)
  rw [hz1] at h
  simp only [Int.toNat_natCast] at h
  have hm : madeCells (Value.int .u8 0).cells (n * 1) = Array.replicate n (Value.int .u8 0) := by
    apply Array.toList_inj.1
    simp [madeCells, Value.cells]
    rw [List.eq_replicate_iff]
    refine ⟨by simp, ?_⟩
    intro v hv
    obtain ⟨j, _, rfl⟩ := List.mem_map.1 hv
    rw [Nat.mod_one]
    rfl
  rw [hm] at h
  exact h
theorem Bk.zero (w : World) (n : Nat) : Bk w.heap.size n (fun _ => 0) (w.alloc (.cells (Array.replicate n (Value.int .u8 0)) 5)) := by
  have e : ((List.range n).map (fun k => Value.int .u8 ((0 : Nat) : Int))).toArray = Array.replicate n (Value.int .u8 0) := by
    apply Array.toList_inj.1
    simp [List.map_const']
  unfold Bk
  rw [e]
  exact blk_at

set_option maxRecDepth 100000 in
theorem bytes_none (cu : Bool) (a : Option Addr) (cap : Nat) (W : World) :
    Calls Try.prog 17 #[.bool cu, .slice a 0 cap] W fun e w' => e = .returned (.tuple #[.string ⟨#[]⟩, .int .i64 2]) ∧ W = w' := by
  go_enter Try.func17, Try.ntmps17
  go_wp2
  go_ret2
  exact ⟨rfl, rfl⟩

set_option maxRecDepth 100000 in
theorem bytes_many (cu : Bool) (a : Option Addr) (n cap : Nat) (h : 65535 < n) (W : World) :
    Calls Try.prog 17 #[.bool cu, .slice a n cap] W fun e w' => e = .returned (.tuple #[.string ⟨#[]⟩, .int .i64 2]) ∧ W = w' := by
  have h0 : ¬ (n : Int) = 0 := by omega
  have h1 : ((n : Int) == 0) = false := by rw [beq_eq_false_iff_ne]; omega
  have h2 : (65535 : Int) < (n : Int) := by omega
  go_enter Try.func17, Try.ntmps17
  go_wp2
  go_ret2
  exact ⟨rfl, rfl⟩

set_option maxRecDepth 100000 in
set_option maxHeartbeats 4000000 in
theorem bytes_calls (cu : Bool) (lb lo n cap t : Nat) (E : Nat → Nat → Int) (W : World) (h0 : 0 < n) (hn : n ≤ 65535) (HE : EnsAt lb lo n E W) (ht : t ≤ n) (hok : ∀ i, i < t → ftE (E i) = true) (hstop : t = n ∨ (t < n ∧ ftE (E t) = false)) :
    Calls Try.prog 17 #[.bool cu, .slice (some ⟨lb, lo, none⟩) n cap] W fun e w' => e = .returned (.tuple (if t = n then #[.string (txF (6 + 16 * n) (dirF cu n E n)), .int .i64 0] else #[.string ⟨#[]⟩, .int .i64 2])) ∧ W.grownBy w' none := by
  have f0 : ¬ (n : Int) = 0 := by omega
  have f1 : ((n : Int) == 0) = false := by rw [beq_eq_false_iff_ne]; omega
  have f2 : ¬ (65535 : Int) < (n : Int) := by omega
  obtain ⟨N, hN⟩ : ∃ N, 6 + 16 * n = N := ⟨_, rfl⟩
  have KE := fun i (hi : i ≤ n) u => end_calls i (by omega) u
  have KEn := fun u => end_calls n (by omega) u
  rw [hN] at KEn ⊢
  have KEn := Lib.hid KEn
  have KE := Lib.hid KE
  have MK := fun w => make_z N w (by omega)
  obtain ⟨ty, hty⟩ : ∃ v : Nat, (if cu then 2 else 1) = v := ⟨_, rfl⟩
  have htb : ty ≤ 2 := by rw [← hty]; split <;> decide
  have htz : (if cu then (2 : Int) else 1) = ((ty : Nat) : Int) := by rw [← hty]; cases cu <;> rfl
  have KT := fun u => typeof_calls cu u
  rw [htz] at KT
  have KT := Lib.hid KT
  have HTY := Lib.hid hty
  have S1 : ∀ g u, (Instr.slice 90 (.slice (some ⟨g, 0, none⟩) N N) (some (.int .i64 2)) (some (.int .i64 4)) none).run Try.prog u = .ok (.slice (some ⟨g, 0 + 2, none⟩) 2 (N - 2)) u := fun g u => slice_in g 0 N N 2 4 (by decide) (by omega) (by omega) u
  have S2 : ∀ g u, (Instr.slice 90 (.slice (some ⟨g, 0, none⟩) N N) (some (.int .i64 4)) (some (.int .i64 6)) none).run Try.prog u = .ok (.slice (some ⟨g, 0 + 4, none⟩) 2 (N - 4)) u := fun g u => slice_in g 0 N N 4 6 (by decide) (by omega) (by omega) u
  simp only [Nat.zero_add] at S1 S2
  have SI := Lib.hid (fun g i (hi : i < n) u => slice_in g 0 N N (6 + 16 * i) (6 + 16 * (i + 1)) (by omega) (by omega) (by omega) u)
  obtain ⟨N2, hN2⟩ : ∃ c, N - 2 = c := ⟨_, rfl⟩
  obtain ⟨N4, hN4⟩ : ∃ c, N - 4 = c := ⟨_, rfl⟩
  rw [hN2] at S1
  rw [hN4] at S2
  have P1 := Lib.hid (fun g f u (hu : Bk g N f u) => put_calls g N 2 2 N2 ty f u (by decide) (by omega) (by omega) hu)
  have P2 := Lib.hid (fun g f u (hu : Bk g N f u) => put_calls g N 4 2 N4 n f u (by decide) (by omega) (by omega) hu)
  have HNN := Lib.hid (And.intro hN (And.intro hn h0))
  have HEE := Lib.hid HE
  have HOK := Lib.hid hok
  have HST := Lib.hid hstop
  have HT := Lib.hid ht
  clear hN2 hN4 hn h0 HE hok hstop ht hty htb htz
  go_enter Try.func17, Try.ntmps17
  go_wp2_with fail
  refine (KEn.out _).mono ?_
  rintro e w' ⟨rfl, rfl⟩
  go_upto_region 4 with fail
  have B0 := Bk.zero W N
  have G0 := World.grownBy_alloc W (.cells (Array.replicate N (Value.int .u8 0)) 5) none
  obtain ⟨g, hg⟩ : ∃ g, W.heap.size = g := ⟨_, rfl⟩
  rw [hg] at B0 ⊢
  generalize W.alloc _ = w1 at B0 G0 ⊢
  have HB0 := Lib.hid B0
  have HG0 := Lib.hid G0
  have Hg := Lib.hid hg
  clear B0 G0 hg MK KEn
  go_region_held3 (fun _ => True) (trivial)
    (first
      | (go_at_call 31; with_reducible refine (KT.out _).mono ?_; rintro e w' ⟨rfl, rfl⟩)
      | (go_at_call 30; refine (P1.out _ _ _ (HB0.out.gb (gb_drew _ none) (by simp))).mono ?_; rintro e u1 ⟨rfl, hb, gx⟩; have HB1 := Lib.hid hb; have HG1 := Lib.hid (gb_own (gb_trans HG0.out (gb_drew _ _)) (by have := Hg.out; omega) gx); clear hb gx))
  all_goals
    clear HB0 HG0 KT P1
    go_wp2_with fail
    refine (P2.out _ _ _ HB1.out).mono ?_
    rintro e w2 ⟨rfl, hb, gx⟩
    have HG2 := Lib.hid (gb_own HG1.out (by have := Hg.out; omega) gx)
    have HB2 := Lib.hid (hb.same (f' := dirF cu n E 0) (fun k _ => by rw [← hd_start]; unfold hdF; rw [HTY.out]))
    clear hb gx HB1 HG1 P2
    go_wp2_with fail
    go_loopg [33] n (fun m iv wr => ∃ i : Nat, i ≤ t ∧ m = n - i ∧ iv = .int .i64 (i : Nat) ∧ Bk g N (dirF cu n E i) wr ∧ W.grownBy wr none)
    case atStart => exact ⟨0, Nat.zero_le _, rfl, rfl, HB2.out, HG2.out⟩
    case round =>
      obtain ⟨i, hit, rfl, rfl, hB, hG⟩ := hrel
      have HB := Lib.hid hB
      have HG := Lib.hid hG
      clear hB hG HB2 HG2
      have htn := HT.out
      by_cases hin : i = n
      · have htn2 : t = n := by omega
        have HTN := Lib.hid htn2
        subst hin
        have cv := HB.out.conv (fun k _ => dirF_lt _ _ _ _ _) N
        clear htn htn2 hit
        go_wp2
        go_ret2
        exact ⟨by first | rfl | (rw [if_pos HTN.out]; rfl), HG.out⟩
      have hlt : i < n := by omega
      have hlti : (i : Int) < (n : Int) := by omega
      have CE := HEE.out.grown HG.out i hlt
      have x0 := CE 0 (by decide)
      have x1 := CE 1 (by decide)
      have x2 := CE 2 (by decide)
      have x3 := CE 3 (by decide)
      have x4 := CE 4 (by decide)
      have x5 := CE 5 (by decide)
      rw [Nat.add_zero] at x0
      have KF := fun u => fits_calls (E i 0) (E i 1) (E i 2) (E i 3) (E i 4) (E i 5) u
      rw [show ftB (E i 0) (E i 1) (E i 2) (E i 3) (E i 4) (E i 5) = ftE (E i) from rfl] at KF
      have hw1 : IntKind.i64.wrap ((i : Int) + 1) = (i : Int) + 1 := IntWalk.i64_in _ (by have := HNN.out; omega)
      clear CE
      by_cases hitt : i < t
      · rw [HOK.out i hitt] at KF
        have KF := Lib.hid KF
        obtain ⟨w, h, a, b, s, p, z0, z1, z2, z3, z4, z5, bw1, bw2, bh1, bh2, ba, bb, bs, bp⟩ := ft_nat (HOK.out i hitt)
        have STEP := fun k => dirF_step cu n E i k
        rw [z0, z1, z2, z3, z4, z5] at STEP KF
        rw [z0] at x0
        rw [z1] at x1
        rw [z2] at x2
        rw [z3] at x3
        rw [z4] at x4
        rw [z5] at x5
        simp only [Int.toNat_natCast] at STEP
        clear z0 z1 z2 z3 z4 z5
        have SS := SI.out g i hlt
        rw [Nat.zero_add] at SS
        have KE1 := KE.out i (by omega)
        have KE2 := KE.out (i + 1) (by omega)
        have PE := fun u (hu : Bk g N (dirF cu n E i) u) => eput_calls w h a b s p g N (6 + 16 * i) (6 + 16 * (i + 1) - (6 + 16 * i)) (N - (6 + 16 * i)) (dirF cu n E i) u (by have := HNN.out; omega) (by omega) (by have := HNN.out; omega) (by omega) (by omega) (by omega) (by omega) (by omega) (by omega) hu
        obtain ⟨q, hq⟩ : ∃ q, 6 + 16 * i = q := ⟨_, rfl⟩
        obtain ⟨q1, hq1⟩ : ∃ q, 6 + 16 * (i + 1) = q := ⟨_, rfl⟩
        rw [hq] at SS KE1 PE STEP
        rw [hq1] at SS KE2 PE
        obtain ⟨L, hL⟩ : ∃ L, q1 - q = L := ⟨_, rfl⟩
        obtain ⟨C, hC⟩ : ∃ C, N - q = C := ⟨_, rfl⟩
        rw [hL, hC] at SS PE
        have KE1 := Lib.hid KE1
        rw [Int.natCast_add, Int.natCast_one] at KE2
        have KE2 := Lib.hid KE2
        have PE := Lib.hid PE
        have HSTEP := Lib.hid STEP
        have HIT := Lib.hid hitt
        clear STEP hL hC hq hq1 bw1 bw2 bh1 bh2 ba bb bs bp hitt hin
        go_wp2_with fail
        refine (KF.out _).mono ?_
        rintro e w4 ⟨rfl, g4⟩
        have B4 := HB.out.gb (gb_trans (World.grownBy_alloc _ (.cells #[.int .i64 (w : Nat), .int .i64 (h : Nat), .int .i64 (a : Nat), .int .i64 (b : Nat), .int .i64 (s : Nat), .int .i64 (p : Nat)] 33) none) g4) (by simp)
        have G4 := gb_trans HG.out (gb_trans (World.grownBy_alloc _ (.cells #[.int .i64 (w : Nat), .int .i64 (h : Nat), .int .i64 (a : Nat), .int .i64 (b : Nat), .int .i64 (s : Nat), .int .i64 (p : Nat)] 33) none) g4)
        have E4 := old1 g4 (by simp)
        obtain ⟨X, hX⟩ : ∃ X, wr.heap.size = X := ⟨_, rfl⟩
        have hgX : g ≠ X := by have := HB.out.lt; omega
        rw [hX] at E4 ⊢
        have HB4 := Lib.hid B4
        have HG4 := Lib.hid G4
        have HE4 := Lib.hid E4
        clear x0 x1 x2 x3 x4 x5
        have x0 := blk_cell E4 0
        have x1 := blk_cell E4 1
        have x2 := blk_cell E4 2
        have x3 := blk_cell E4 3
        have x4 := blk_cell E4 4
        have x5 := blk_cell E4 5
        simp only [List.getElem?_toArray, List.getElem?_cons_succ, List.getElem?_cons_zero] at x0 x1 x2 x3 x4 x5
        clear B4 G4 E4 g4 HB HG KF hX
        go_upto_region 11 with fail
        go_region_held3 (fun u => u.cell? ⟨X, 0, none⟩ = some (.int .i64 (w : Nat)) ∧ u.cell? ⟨X, 1, none⟩ = some (.int .i64 (h : Nat)) ∧ u.cell? ⟨X, 2, none⟩ = some (.int .i64 (a : Nat)) ∧ u.cell? ⟨X, 3, none⟩ = some (.int .i64 (b : Nat)) ∧ u.cell? ⟨X, 4, none⟩ = some (.int .i64 (s : Nat)) ∧ u.cell? ⟨X, 5, none⟩ = some (.int .i64 (p : Nat))) (go_keep)
          (first
            | (go_at_call 25; with_reducible refine (KE1.out _).mono ?_; rintro e w' ⟨rfl, rfl⟩)
            | (go_at_call 25; with_reducible refine (KE2.out _).mono ?_; rintro e w' ⟨rfl, rfl⟩)
            | (go_at_call 33; refine (PE.out _ (HB4.out.gb (gb_drew _ none) (by simp))).mono ?_; rintro e u1 ⟨rfl, hb, gx⟩; have HB5 := Lib.hid hb; have HG5 := Lib.hid (gb_own (gb_trans HG4.out (gb_drew _ _)) (by have := Hg.out; omega) gx); have E5 := old0 gx (show _ = some _ from HE4.out) (blk_lt HE4.out) (by simp; exact fun e => hgX e.symm); have y0 := blk_cell E5 0; have y1 := blk_cell E5 1; have y2 := blk_cell E5 2; have y3 := blk_cell E5 3; have y4 := blk_cell E5 4; have y5 := blk_cell E5 5; simp only [List.getElem?_toArray, List.getElem?_cons_succ, List.getElem?_cons_zero] at y0 y1 y2 y3 y4 y5; clear hb gx E5))
        all_goals
          go_wp2
          go_roundg (n - (i + 1))
          case measure => omega
          case rel => exact ⟨i + 1, by have := HIT.out; omega, rfl, by go_num, HB5.out.same (fun k _ => HSTEP.out k), HG5.out⟩
      · obtain rfl : i = t := by omega
        obtain h9 | ⟨-, h9⟩ := HST.out
        · omega
        rw [h9] at KF
        have KF := Lib.hid KF
        have HIN := Lib.hid hin
        clear h9 hitt
        go_wp2_with fail
        refine (KF.out _).mono ?_
        rintro e w4 ⟨rfl, g4⟩
        have HG4 := Lib.hid (gb_trans HG.out (gb_trans (World.grownBy_alloc _ _ none) g4))
        clear g4 x0 x1 x2 x3 x4 x5
        go_wp2
        go_ret2
        exact ⟨by first | rfl | (rw [if_neg HIN.out]; rfl), HG4.out⟩

end Go.Proofs.Ytajbpcaghmcplaa.Id
