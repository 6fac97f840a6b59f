/- Layer 24: the small tests of Bytes; numbers as bytes (written by wip/gen/id8.py). -/
import Derived.Test.YtajbpcaghmcplaaId3
import Derived.Lib.ConvBytes
import Derived.Laws.BytesString
namespace Go.Proofs.Ytajbpcaghmcplaa.Id
open Go.ChangeShapes Go.WideShapes Go.ChangeAt Go.RowKit
open Go.Proofs.Ytajbpcaghmcplaa.Le Go.Proofs.Ytajbpcaghmcplaa.Sr Go.Proofs.Ytajbpcaghmcplaa.Dh
set_option linter.unusedVariables false

def sdB (v : Int) : Bool := decide (1 ≤ v ∧ v ≤ 256)
theorem isside_calls (v : Int) (W : World) : Calls Try.prog 40 #[.int .i64 v] W fun e w' => e = .returned (.bool (sdB v)) ∧ W = w' := by
  unfold sdB
  by_cases h1 : 1 ≤ v
  · by_cases h2 : v ≤ 256
    · rw [decide_eq_true ⟨h1, h2⟩]
      go_enter Try.func40, Try.ntmps40
      go_wp2
      go_ret
      exact ⟨rfl, rfl⟩
    · rw [decide_eq_false (fun h => h2 h.2)]
      go_enter Try.func40, Try.ntmps40
      go_wp2
      go_ret
      exact ⟨rfl, rfl⟩
  · rw [decide_eq_false (fun h => h1 h.1)]
    go_enter Try.func40, Try.ntmps40
    go_wp2
    go_ret
    exact ⟨rfl, rfl⟩

def nmB (v m : Int) : Bool := decide (0 ≤ v ∧ v < m)
theorem isnum2_calls (v : Int) (W : World) : Calls Try.prog 41 #[.int .i64 v, .int .i64 2] W fun e w' => e = .returned (.bool (nmB v 65536)) ∧ W = w' := by
  unfold nmB
  by_cases h1 : 0 ≤ v
  · by_cases h2 : v < 65536
    · rw [decide_eq_true ⟨h1, h2⟩]
      go_enter Try.func41, Try.ntmps41
      go_wp2
      go_ret
      exact ⟨rfl, rfl⟩
    · rw [decide_eq_false (fun h => h2 h.2)]
      go_enter Try.func41, Try.ntmps41
      go_wp2
      go_ret
      exact ⟨rfl, rfl⟩
  · rw [decide_eq_false (fun h => h1 h.1)]
    go_enter Try.func41, Try.ntmps41
    go_wp2
    go_ret
    exact ⟨rfl, rfl⟩
theorem isnum4_calls (v : Int) (W : World) : Calls Try.prog 41 #[.int .i64 v, .int .i64 4] W fun e w' => e = .returned (.bool (nmB v 4294967296)) ∧ W = w' := by
  unfold nmB
  by_cases h1 : 0 ≤ v
  · by_cases h2 : v < 4294967296
    · rw [decide_eq_true ⟨h1, h2⟩]
      go_enter Try.func41, Try.ntmps41
      go_wp2
      go_ret
      exact ⟨rfl, rfl⟩
    · rw [decide_eq_false (fun h => h2 h.2)]
      go_enter Try.func41, Try.ntmps41
      go_wp2
      go_ret
      exact ⟨rfl, rfl⟩
  · rw [decide_eq_false (fun h => h1 h.1)]
    go_enter Try.func41, Try.ntmps41
    go_wp2
    go_ret
    exact ⟨rfl, rfl⟩
theorem typeof_calls (c : Bool) (W : World) : Calls Try.prog 31 #[.bool c] W fun e w' => e = .returned (.int .i64 (if c then 2 else 1)) ∧ W = w' := by
  cases c
  all_goals
    go_enter Try.func31, Try.ntmps31
    go_wp2
    go_ret
    exact ⟨rfl, rfl⟩

/-- May an entry be written? -/
def ftB (w h a b s p : Int) : Bool := sdB w && (sdB h && (nmB a 65536 && (nmB b 65536 && (nmB s 4294967296 && nmB p 4294967296))))
set_option maxRecDepth 100000 in
theorem fits_calls (w h a b s p : Int) (W : World) : Calls Try.prog 32 #[.agg #[.int .i64 w, .int .i64 h, .int .i64 a, .int .i64 b, .int .i64 s, .int .i64 p]] W fun e w' => e = .returned (.bool (ftB w h a b s p)) ∧ W.grownBy w' none := by
  unfold ftB
  have K0 := fun u => isside_calls w u
  obtain ⟨t0, h0⟩ : ∃ t, sdB w = t := ⟨_, rfl⟩
  rw [h0] at K0 ⊢
  have K0 := Lib.hid K0
  clear h0
  have K1 := fun u => isside_calls h u
  obtain ⟨t1, h1⟩ : ∃ t, sdB h = t := ⟨_, rfl⟩
  rw [h1] at K1 ⊢
  have K1 := Lib.hid K1
  clear h1
  have K2 := fun u => isnum2_calls a u
  obtain ⟨t2, h2⟩ : ∃ t, nmB a 65536 = t := ⟨_, rfl⟩
  rw [h2] at K2 ⊢
  have K2 := Lib.hid K2
  clear h2
  have K3 := fun u => isnum2_calls b u
  obtain ⟨t3, h3⟩ : ∃ t, nmB b 65536 = t := ⟨_, rfl⟩
  rw [h3] at K3 ⊢
  have K3 := Lib.hid K3
  clear h3
  have K4 := fun u => isnum4_calls s u
  obtain ⟨t4, h4⟩ : ∃ t, nmB s 4294967296 = t := ⟨_, rfl⟩
  rw [h4] at K4 ⊢
  have K4 := Lib.hid K4
  clear h4
  have K5 := fun u => isnum4_calls p u
  obtain ⟨t5, h5⟩ : ∃ t, nmB p 4294967296 = t := ⟨_, rfl⟩
  rw [h5] at K5 ⊢
  have K5 := Lib.hid K5
  clear h5
  go_enter Try.func32, Try.ntmps32
  go_wp2_with fail
  refine (K0.out _).mono ?_
  rintro e w' ⟨rfl, rfl⟩
  cases t0 with
  | false =>
    go_wp2
    go_ret
    exact ⟨rfl, World.grownBy_alloc _ _ _⟩
  | true =>
    go_wp2_with fail
    refine (K1.out _).mono ?_
    rintro e w' ⟨rfl, rfl⟩
    cases t1 with
    | false =>
      go_wp2
      go_ret
      exact ⟨rfl, World.grownBy_alloc _ _ _⟩
    | true =>
      go_wp2_with fail
      refine (K2.out _).mono ?_
      rintro e w' ⟨rfl, rfl⟩
      cases t2 with
      | false =>
        go_wp2
        go_ret
        exact ⟨rfl, World.grownBy_alloc _ _ _⟩
      | true =>
        go_wp2_with fail
        refine (K3.out _).mono ?_
        rintro e w' ⟨rfl, rfl⟩
        cases t3 with
        | false =>
          go_wp2
          go_ret
          exact ⟨rfl, World.grownBy_alloc _ _ _⟩
        | true =>
          go_wp2_with fail
          refine (K4.out _).mono ?_
          rintro e w' ⟨rfl, rfl⟩
          cases t4 with
          | false =>
            go_wp2
            go_ret
            exact ⟨rfl, World.grownBy_alloc _ _ _⟩
          | true =>
            go_wp2_with fail
            refine (K5.out _).mono ?_
            rintro e w' ⟨rfl, rfl⟩
            go_wp2
            go_ret
            exact ⟨rfl, World.grownBy_alloc _ _ _⟩

/-- Block g is N bytes, by a function of the place. -/
def Bk (g N : Nat) (f : Nat → Nat) (w : World) : Prop := w.heap[g]? = some (.cells ((List.range N).map (fun k => Value.int .u8 (f k : Nat))).toArray 5 (0, 0))
theorem Bk.cell {g N : Nat} {f : Nat → Nat} {w : World} (h : Bk g N f w) (i : Nat) (hi : i < N) : w.cell? ⟨g, i, none⟩ = some (.int .u8 (f i : Nat)) := by
  rw [blk_cell h i]
  simp [hi]
theorem Bk.free {g N : Nat} {f : Nat → Nat} {w : World} (h : Bk g N f w) (i : Nat) : w.frozen? ⟨g, i, none⟩ = false := blk_free h i
theorem Bk.lt {g N : Nat} {f : Nat → Nat} {w : World} (h : Bk g N f w) : g < w.heap.size := blk_lt h
theorem Bk.turned {g N : Nat} {f : Nat → Nat} {w w' : World} {S : List Nat} (h : Bk g N f w) (t : Tn w w' S) (h1 : g ∉ S) : Bk g N f w' := (t.block g h.lt h1).trans h
theorem Bk.gb {g N : Nat} {f : Nat → Nat} {w w' : World} {r : Option Nat} (h : Bk g N f w) (k : w.grownBy w' r) (h1 : some g ≠ r) : Bk g N f w' := old0 k h h.lt h1
theorem Bk.oth {g N : Nat} {f : Nat → Nat} {w : World} {c o : Nat} {v : Value} (h : Bk g N f w) (h1 : g ≠ c) : Bk g N f (w.setCell ⟨c, o, none⟩ v) := blk_other h h1
theorem Bk.same {g N : Nat} {f f' : Nat → Nat} {w : World} (h : Bk g N f w) (e : ∀ k, k < N → f k = f' k) : Bk g N f' w := by
  unfold Bk at h ⊢
  have e2 : (List.range N).map (fun k => Value.int .u8 (f k : Nat)) = (List.range N).map (fun k => Value.int .u8 (f' k : Nat)) := List.map_congr_left (fun k hk => by rw [e k (List.mem_range.1 hk)])
  rw [h, e2]
theorem Bk.set {g N : Nat} {f : Nat → Nat} {w : World} (h : Bk g N f w) (o v : Nat) : Bk g N (fun k => if k = o then v else f k) (w.setCell ⟨g, o, none⟩ (.int .u8 (v : Nat))) := by
  have := blk_set h o (.int .u8 (v : Nat))
  have e : (((List.range N).map (fun k => Value.int .u8 (f k : Nat))).toArray.setIfInBounds o (.int .u8 (v : Nat))) = ((List.range N).map (fun k => Value.int .u8 ((if k = o then v else f k : Nat)))).toArray := by
    rw [List.setIfInBounds_toArray]
    congr 1
    apply List.ext_getElem?
    intro i
    rw [List.getElem?_set]
    simp only [List.getElem?_map, List.length_map, List.length_range]
    by_cases hi : i < N
    · rw [List.getElem?_range hi]
      by_cases e : o = i
      · subst e; simp [hi]
      · have e' : ¬ i = o := fun x => e x.symm
        rw [if_neg e]; simp [e']
    · rw [List.getElem?_eq_none (show (List.range N).length ≤ i by rw [List.length_range]; omega)]
      by_cases e : o = i
      · subst e; simp [hi]
      · simp [e]
  unfold Bk
  rw [this, ← e]

/-- A number's byte number j; k bytes of it put from a place on. -/
def byF (v j : Nat) : Nat := v / 256 ^ j % 256
def puF (f : Nat → Nat) (off v n : Nat) (k : Nat) : Nat := if off ≤ k ∧ k < off + n then byF v (k - off) else f k
theorem puF_step (f : Nat → Nat) (off v n : Nat) : (fun k => if k = off + n then byF v n else puF f off v n k) = puF f off v (n + 1) := by
  funext k
  unfold puF
  by_cases h : k = off + n
  · rw [if_pos h, if_pos (by omega), h, show off + n - off = n from by omega]
  · rw [if_neg h]
    by_cases h2 : off ≤ k ∧ k < off + n
    · rw [if_pos h2, if_pos (by omega)]
    · rw [if_neg h2, if_neg (by omega)]
theorem puF_0 (f : Nat → Nat) (off v : Nat) : puF f off v 0 = f := by
  funext k
  unfold puF
  rw [if_neg (by omega)]

set_option maxRecDepth 100000 in
set_option maxHeartbeats 2000000 in
theorem put_calls (g N off n cap v : Nat) (f : Nat → Nat) (W : World) (hn : n ≤ 4) (ho : off + n ≤ N) (hv : v < 4294967296) (h : Bk g N f W) :
    Calls Try.prog 30 #[.slice (some ⟨g, off, none⟩) n cap, .int .i64 (v : Nat)] W fun e w' => e = .returned (.tuple #[]) ∧ Bk g N (puF f off v n) w' ∧ W.grownBy w' (some g) := by
  have H0 := Lib.hid h
  clear h
  go_enter Try.func30, Try.ntmps30
  go_wp2_with fail
  go_loopg [7] n (fun q iv wr => ∃ k : Nat, k ≤ n ∧ q = n - k ∧ iv = .int .i64 (k : Nat) ∧ Bk g N (puF f off v k) wr ∧ W.grownBy wr (some g))
  case atStart => exact ⟨0, by omega, rfl, rfl, by rw [puF_0]; exact H0.out, gb_refl _ _⟩
  case round =>
    obtain ⟨k, hk, rfl, rfl, hB, hG⟩ := hrel
    clear H0
    by_cases hkn : k = n
    · subst hkn
      have HB := Lib.hid hB
      have HG := Lib.hid hG
      clear hB hG
      go_wp2
      first | go_end0 | (simp only [Exit.inBlock, Exit.then]; refine bodyPost_ret (results_none rfl _ _ _) rfl ?_) | refine bodyPost_ret (results_none rfl _ _ _) rfl ?_
      exact ⟨rfl, HB.out, HG.out⟩
    have hlt : k < n := by omega
    clear hkn
    obtain rfl | rfl | rfl | rfl : k = 0 ∨ k = 1 ∨ k = 2 ∨ k = 3 := by omega
    · have hqn : (0 : Int) < (n : Int) := by omega
      have c := hB.cell off (by omega)
      have z := hB.free off
      obtain ⟨c0, hc0⟩ : ∃ x : Nat, puF f off v 0 off = x := ⟨_, rfl⟩
      rw [hc0] at c
      have bb : ((byF v 0 : Nat) : Int) = (v : Int) % 256 := by
        have : byF v 0 = v % 256 := by unfold byF; simp only [Nat.pow_zero, Nat.div_one]
        rw [this]
        omega
      have HB := Lib.hid hB
      have HG := Lib.hid hG
      have Hb := Lib.hid bb
      clear hB hG hc0 bb
      go_wp2
      go_roundg (n - 1)
      case measure => omega
      case rel =>
        refine ⟨1, by omega, rfl, by go_num, ?_, ?_⟩
        · rw [← puF_step]
          have s := HB.out.set off (byF v 0)
          rw [Hb.out] at s
          exact s
        · exact gb_trans HG.out (gb_set _ _ _ _)
    · have hqn : (1 : Int) < (n : Int) := by omega
      have c := hB.cell (off + 1) (by omega)
      have z := hB.free (off + 1)
      obtain ⟨c0, hc0⟩ : ∃ x : Nat, puF f off v 1 (off + 1) = x := ⟨_, rfl⟩
      rw [hc0] at c
      have bb : ((byF v 1 : Nat) : Int) = (v : Int) / 256 % 256 := by
        have : byF v 1 = v / 256 % 256 := by unfold byF; simp only [Nat.reducePow]
        rw [this]
        omega
      have HB := Lib.hid hB
      have HG := Lib.hid hG
      have Hb := Lib.hid bb
      clear hB hG hc0 bb
      go_wp2
      go_roundg (n - 2)
      case measure => omega
      case rel =>
        refine ⟨2, by omega, rfl, by go_num, ?_, ?_⟩
        · rw [← puF_step]
          have s := HB.out.set (off + 1) (byF v 1)
          rw [Hb.out] at s
          exact s
        · exact gb_trans HG.out (gb_set _ _ _ _)
    · have hqn : (2 : Int) < (n : Int) := by omega
      have c := hB.cell (off + 2) (by omega)
      have z := hB.free (off + 2)
      obtain ⟨c0, hc0⟩ : ∃ x : Nat, puF f off v 2 (off + 2) = x := ⟨_, rfl⟩
      rw [hc0] at c
      have bb : ((byF v 2 : Nat) : Int) = (v : Int) / 65536 % 256 := by
        have : byF v 2 = v / 65536 % 256 := by unfold byF; simp only [Nat.reducePow]
        rw [this]
        omega
      have HB := Lib.hid hB
      have HG := Lib.hid hG
      have Hb := Lib.hid bb
      clear hB hG hc0 bb
      go_wp2
      go_roundg (n - 3)
      case measure => omega
      case rel =>
        refine ⟨3, by omega, rfl, by go_num, ?_, ?_⟩
        · rw [← puF_step]
          have s := HB.out.set (off + 2) (byF v 2)
          rw [Hb.out] at s
          exact s
        · exact gb_trans HG.out (gb_set _ _ _ _)
    · have hqn : (3 : Int) < (n : Int) := by omega
      have c := hB.cell (off + 3) (by omega)
      have z := hB.free (off + 3)
      obtain ⟨c0, hc0⟩ : ∃ x : Nat, puF f off v 3 (off + 3) = x := ⟨_, rfl⟩
      rw [hc0] at c
      have bb : ((byF v 3 : Nat) : Int) = (v : Int) / 16777216 := by
        have : byF v 3 = v / 16777216 % 256 := by unfold byF; simp only [Nat.reducePow]
        rw [this]
        omega
      have HB := Lib.hid hB
      have HG := Lib.hid hG
      have Hb := Lib.hid bb
      clear hB hG hc0 bb
      go_wp2
      go_roundg (n - 4)
      case measure => omega
      case rel =>
        refine ⟨4, by omega, rfl, by go_num, ?_, ?_⟩
        · rw [← puF_step]
          have s := HB.out.set (off + 3) (byF v 3)
          rw [Hb.out] at s
          exact s
        · exact gb_trans HG.out (gb_set _ _ _ _)

end Go.Proofs.Ytajbpcaghmcplaa.Id
