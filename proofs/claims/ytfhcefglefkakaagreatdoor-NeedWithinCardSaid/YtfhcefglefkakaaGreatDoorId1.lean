/- Layer 24: the small functions of directories (written by wip/gen/id1.py). -/
import Derived.Test.YtfhcefglefkakaaGreatDoorDiN
import Derived.Deep.LoopGhost
namespace Go.Proofs.YtfhcefglefkakaaGreatDoor.Id
open Go.ChangeShapes Go.WideShapes Go.ChangeAt Go.RowKit
open Go.Proofs.YtfhcefglefkakaaGreatDoor.Le Go.Proofs.YtfhcefglefkakaaGreatDoor.Sr Go.Proofs.YtfhcefglefkakaaGreatDoor.Dh
set_option linter.unusedVariables false

/-- n further steps are done; all are done, and one more was refused. -/
def stp (x : St) (n : Nat) : St := { x with st := x.st + n }
def spent (x : St) : St := { x with st := x.s, r := 3, a := 1 }
theorem stp_0 (x : St) : stp x 0 = x := by simp [stp]
theorem stp_stp (x : St) (a b : Nat) : stp (stp x a) b = stp x (a + b) := by simp [stp, Int.add_assoc]
theorem stp_spent (x : St) (n : Nat) : spent (stp x n) = spent x := rfl
theorem stp_ok {x : St} (ok : x.Ok) (n : Nat) (h : x.st + n ≤ x.s) : (stp x n).Ok := by
  obtain ⟨_, _, _, _, _, _, _, _, _, _, _, _⟩ := ok
  constructor <;> simp only [stp] <;> omega
theorem work_one {x : St} (hr : x.r = 0) (h : x.st + 1 ≤ x.s) : x.work 1 = (stp x 1, true) := by
  unfold St.work
  rw [if_neg (by simpa using hr), if_neg (by omega)]
  rfl
theorem work_none {x : St} (ok : x.Ok) (hr : x.r = 0) (h : x.s < x.st + 1) : x.work 1 = (spent x, false) := by
  have := ok.ts
  have e : x.st = x.s := by omega
  unfold St.work
  rw [if_neg (by simpa using hr), if_pos (by omega), St.refuse, if_pos hr]
  unfold spent
  rw [← e]
theorem abs_w {Q R : World → Prop} {w : World} (h : R w) (k : ∀ w', R w' → Q w') : Q w := k w h
theorem tn_own1 {a b : World} {S : List Nat} {k i : Nat} {v : Value} (h : Tn a b S) (hk : a.heap.size ≤ k) : Tn a (b.setCell ⟨k, i, none⟩ v) S :=
  h.over (Tn.set b k i v (List.mem_singleton.2 rfl)) (fun x hx => .inl (by rw [List.mem_singleton] at hx; omega))

theorem drew_heap (w : World) : w.drew.heap = w.heap := rfl
theorem set6 {w : World} {X : Nat} {t : TypeId} {c0 c1 c2 c3 c4 c5 : Value} (h : w.heap[X]? = some (.cells #[c0, c1, c2, c3, c4, c5] t (0, 0))) (v0 v1 v2 v3 v4 v5 : Value) : ((((((w.setCell ⟨X, 0, none⟩ v0).setCell ⟨X, 1, none⟩ v1).setCell ⟨X, 2, none⟩ v2).setCell ⟨X, 3, none⟩ v3).setCell ⟨X, 4, none⟩ v4).setCell ⟨X, 5, none⟩ v5).drew.heap[X]? = some (.cells #[v0, v1, v2, v3, v4, v5] t (0, 0)) := by
  have h0 : (w.setCell ⟨X, 0, none⟩ v0).heap[X]? = some (.cells #[v0, c1, c2, c3, c4, c5] t (0, 0)) := blk_set h 0 v0
  have h1 : ((w.setCell ⟨X, 0, none⟩ v0).setCell ⟨X, 1, none⟩ v1).heap[X]? = some (.cells #[v0, v1, c2, c3, c4, c5] t (0, 0)) := blk_set h0 1 v1
  have h2 : (((w.setCell ⟨X, 0, none⟩ v0).setCell ⟨X, 1, none⟩ v1).setCell ⟨X, 2, none⟩ v2).heap[X]? = some (.cells #[v0, v1, v2, c3, c4, c5] t (0, 0)) := blk_set h1 2 v2
  have h3 : ((((w.setCell ⟨X, 0, none⟩ v0).setCell ⟨X, 1, none⟩ v1).setCell ⟨X, 2, none⟩ v2).setCell ⟨X, 3, none⟩ v3).heap[X]? = some (.cells #[v0, v1, v2, v3, c4, c5] t (0, 0)) := blk_set h2 3 v3
  have h4 : (((((w.setCell ⟨X, 0, none⟩ v0).setCell ⟨X, 1, none⟩ v1).setCell ⟨X, 2, none⟩ v2).setCell ⟨X, 3, none⟩ v3).setCell ⟨X, 4, none⟩ v4).heap[X]? = some (.cells #[v0, v1, v2, v3, v4, c5] t (0, 0)) := blk_set h3 4 v4
  have h5 : ((((((w.setCell ⟨X, 0, none⟩ v0).setCell ⟨X, 1, none⟩ v1).setCell ⟨X, 2, none⟩ v2).setCell ⟨X, 3, none⟩ v3).setCell ⟨X, 4, none⟩ v4).setCell ⟨X, 5, none⟩ v5).heap[X]? = some (.cells #[v0, v1, v2, v3, v4, v5] t (0, 0)) := blk_set h4 5 v5
  rw [drew_heap]
  exact h5
theorem gb6 {W w : World} {X : Nat} (g : W.grownBy w none) (hX : W.heap.size ≤ X) (v0 v1 v2 v3 v4 v5 : Value) : W.grownBy ((((((w.setCell ⟨X, 0, none⟩ v0).setCell ⟨X, 1, none⟩ v1).setCell ⟨X, 2, none⟩ v2).setCell ⟨X, 3, none⟩ v3).setCell ⟨X, 4, none⟩ v4).setCell ⟨X, 5, none⟩ v5).drew none := by
  have g0 : W.grownBy (w.setCell ⟨X, 0, none⟩ v0) none := gb_own g hX (gb_set _ X 0 v0)
  have g1 : W.grownBy ((w.setCell ⟨X, 0, none⟩ v0).setCell ⟨X, 1, none⟩ v1) none := gb_own g0 hX (gb_set _ X 1 v1)
  have g2 : W.grownBy (((w.setCell ⟨X, 0, none⟩ v0).setCell ⟨X, 1, none⟩ v1).setCell ⟨X, 2, none⟩ v2) none := gb_own g1 hX (gb_set _ X 2 v2)
  have g3 : W.grownBy ((((w.setCell ⟨X, 0, none⟩ v0).setCell ⟨X, 1, none⟩ v1).setCell ⟨X, 2, none⟩ v2).setCell ⟨X, 3, none⟩ v3) none := gb_own g2 hX (gb_set _ X 3 v3)
  have g4 : W.grownBy (((((w.setCell ⟨X, 0, none⟩ v0).setCell ⟨X, 1, none⟩ v1).setCell ⟨X, 2, none⟩ v2).setCell ⟨X, 3, none⟩ v3).setCell ⟨X, 4, none⟩ v4) none := gb_own g3 hX (gb_set _ X 4 v4)
  have g5 : W.grownBy ((((((w.setCell ⟨X, 0, none⟩ v0).setCell ⟨X, 1, none⟩ v1).setCell ⟨X, 2, none⟩ v2).setCell ⟨X, 3, none⟩ v3).setCell ⟨X, 4, none⟩ v4).setCell ⟨X, 5, none⟩ v5) none := gb_own g4 hX (gb_set _ X 5 v5)
  exact gb_trans g5 (gb_drew _ _)

/-- The first k bytes of a number. -/
def lo (s : ByteArray) : Nat → Nat
  | 0 => 0
  | k + 1 => lo s k + 256 ^ k * bn s k
theorem lo_lt (s : ByteArray) : ∀ k, lo s k < 256 ^ k
  | 0 => Nat.zero_lt_one
  | k + 1 => by
    have h1 := lo_lt s k
    have h2 : 256 ^ k * bn s k ≤ 256 ^ k * 255 := Nat.mul_le_mul_left _ (by have := bn_lt s k; omega)
    show lo s k + _ < 256 ^ k * 256
    omega
theorem lo_2 (s : ByteArray) : lo s 2 = w2 s 0 := by
  simp only [lo, w2, Nat.zero_add]
  omega
theorem lo_4 (s : ByteArray) : lo s 4 = w4 s 0 := by
  simp only [lo, w4, Nat.zero_add]
  omega
theorem wr32 (n : Int) (h₀ : 0 ≤ n) (h₁ : n < 2 ^ 32) : IntKind.i64.wrap n = n := by rw [IntKind.wrap_i64]; omega
theorem or64_0 (v c : Nat) (hv : v < 1) (hc : c < 256) : bits .or .i64 (v : Int) (c : Int) = ((v + 1 * c : Nat) : Int) := by
  have h := bits_nat .i64 32 (by decide) wr32 v (1 * c) (by omega) (by omega)
  rw [show ((c : Int) : Int) = ((1 * c : Nat) : Int) from by omega, h.2, Nat.or_comm, show 1 = 2 ^ 0 from rfl, ← Nat.two_pow_add_eq_or_of_lt (by omega) c]
  omega
theorem or64_1 (v c : Nat) (hv : v < 256) (hc : c < 256) : bits .or .i64 (v : Int) ((c : Int) * 256) = ((v + 256 * c : Nat) : Int) := by
  have h := bits_nat .i64 32 (by decide) wr32 v (256 * c) (by omega) (by omega)
  rw [show (((c : Int) * 256) : Int) = ((256 * c : Nat) : Int) from by omega, h.2, Nat.or_comm, show 256 = 2 ^ 8 from rfl, ← Nat.two_pow_add_eq_or_of_lt (by omega) c]
  omega
theorem or64_2 (v c : Nat) (hv : v < 65536) (hc : c < 256) : bits .or .i64 (v : Int) ((c : Int) * 65536) = ((v + 65536 * c : Nat) : Int) := by
  have h := bits_nat .i64 32 (by decide) wr32 v (65536 * c) (by omega) (by omega)
  rw [show (((c : Int) * 65536) : Int) = ((65536 * c : Nat) : Int) from by omega, h.2, Nat.or_comm, show 65536 = 2 ^ 16 from rfl, ← Nat.two_pow_add_eq_or_of_lt (by omega) c]
  omega
theorem or64_3 (v c : Nat) (hv : v < 16777216) (hc : c < 256) : bits .or .i64 (v : Int) ((c : Int) * 16777216) = ((v + 16777216 * c : Nat) : Int) := by
  have h := bits_nat .i64 32 (by decide) wr32 v (16777216 * c) (by omega) (by omega)
  rw [show (((c : Int) * 16777216) : Int) = ((16777216 * c : Nat) : Int) from by omega, h.2, Nat.or_comm, show 16777216 = 2 ^ 24 from rfl, ← Nat.two_pow_add_eq_or_of_lt (by omega) c]
  omega

set_option maxRecDepth 100000 in
set_option maxHeartbeats 2000000 in
theorem number_calls (z : ByteArray) (n : Nat) (hz : z.size = n) (hn : n ≤ 4) (W : World) :
    Calls Tryz.prog 151 #[.string z] W fun e w' => e = .returned (.int .i64 (lo z n : Nat)) ∧ W = w' := by
  have hzi : (z.size : Int) = (n : Int) := by omega
  go_enter Tryz.func151, Tryz.ntmps151
  go_wp2_with fail
  go_loopg [3, 7] n (fun q vv iv wr => ∃ k : Nat, k ≤ n ∧ q = n - k ∧ vv = .int .i64 ((lo z k : Nat)) ∧ iv = .int .i64 k ∧ W = wr)
  case atStart => exact ⟨0, by omega, rfl, rfl, rfl, rfl⟩
  case round =>
    obtain ⟨k, hk, rfl, rfl, rfl, rfl⟩ := hrel
    by_cases hkn : k = n
    · subst hkn
      go_wp2
      go_ret
      exact ⟨rfl, rfl⟩
    have hlt : k < n := by omega
    clear hkn
    obtain rfl | rfl | rfl | rfl : k = 0 ∨ k = 1 ∨ k = 2 ∨ k = 3 := by omega
    · have hqb : 0 < z.size := by omega
      have hqb' : (0 : Int) < (z.size : Int) := by omega
      have hqn : (0 : Int) < (n : Int) := by omega
      have b255 := bn_lt z 0
      have st : lo z 1 = lo z 0 + 1 * bn z 0 := rfl
      have lt := lo_lt z 0
      obtain ⟨c, hcz⟩ : ∃ c, bn z 0 = c := ⟨_, rfl⟩
      obtain ⟨v, hv⟩ : ∃ v, lo z 0 = v := ⟨_, rfl⟩
      rw [hcz] at b255 st
      rw [hv] at lt st ⊢
      rw [← bn_at z 0 hqb] at hcz
      simp only [Nat.reducePow] at lt
      have OR := or64_0 v c (by omega) b255
      have SS := Lib.hid st
      have HZ := Lib.hid hz
      clear st lt hv hz
      go_wp2
      go_roundg (n - 1)
      case measure => omega
      case rel => exact ⟨1, by omega, rfl, by rw [SS.out]; go_num, by go_num, rfl⟩
    · have hqb : 1 < z.size := by omega
      have hqb' : (1 : Int) < (z.size : Int) := by omega
      have hqn : (1 : Int) < (n : Int) := by omega
      have b255 := bn_lt z 1
      have st : lo z 2 = lo z 1 + 256 * bn z 1 := rfl
      have lt := lo_lt z 1
      obtain ⟨c, hcz⟩ : ∃ c, bn z 1 = c := ⟨_, rfl⟩
      obtain ⟨v, hv⟩ : ∃ v, lo z 1 = v := ⟨_, rfl⟩
      rw [hcz] at b255 st
      rw [hv] at lt st ⊢
      rw [← bn_at z 1 hqb] at hcz
      simp only [Nat.reducePow] at lt
      have OR := or64_1 v c (by omega) b255
      have SS := Lib.hid st
      have HZ := Lib.hid hz
      clear st lt hv hz
      go_wp2
      go_roundg (n - 2)
      case measure => omega
      case rel => exact ⟨2, by omega, rfl, by rw [SS.out]; go_num, by go_num, rfl⟩
    · have hqb : 2 < z.size := by omega
      have hqb' : (2 : Int) < (z.size : Int) := by omega
      have hqn : (2 : Int) < (n : Int) := by omega
      have b255 := bn_lt z 2
      have st : lo z 3 = lo z 2 + 65536 * bn z 2 := rfl
      have lt := lo_lt z 2
      obtain ⟨c, hcz⟩ : ∃ c, bn z 2 = c := ⟨_, rfl⟩
      obtain ⟨v, hv⟩ : ∃ v, lo z 2 = v := ⟨_, rfl⟩
      rw [hcz] at b255 st
      rw [hv] at lt st ⊢
      rw [← bn_at z 2 hqb] at hcz
      simp only [Nat.reducePow] at lt
      have OR := or64_2 v c (by omega) b255
      have SS := Lib.hid st
      have HZ := Lib.hid hz
      clear st lt hv hz
      go_wp2
      go_roundg (n - 3)
      case measure => omega
      case rel => exact ⟨3, by omega, rfl, by rw [SS.out]; go_num, by go_num, rfl⟩
    · have hqb : 3 < z.size := by omega
      have hqb' : (3 : Int) < (z.size : Int) := by omega
      have hqn : (3 : Int) < (n : Int) := by omega
      have b255 := bn_lt z 3
      have st : lo z 4 = lo z 3 + 16777216 * bn z 3 := rfl
      have lt := lo_lt z 3
      obtain ⟨c, hcz⟩ : ∃ c, bn z 3 = c := ⟨_, rfl⟩
      obtain ⟨v, hv⟩ : ∃ v, lo z 3 = v := ⟨_, rfl⟩
      rw [hcz] at b255 st
      rw [hv] at lt st ⊢
      rw [← bn_at z 3 hqb] at hcz
      simp only [Nat.reducePow] at lt
      have OR := or64_3 v c (by omega) b255
      have SS := Lib.hid st
      have HZ := Lib.hid hz
      clear st lt hv hz
      go_wp2
      go_roundg (n - 4)
      case measure => omega
      case rel => exact ⟨4, by omega, rfl, by rw [SS.out]; go_num, by go_num, rfl⟩

set_option maxRecDepth 100000 in
theorem pair_calls (z : ByteArray) (a : Nat) (h : a + 2 ≤ z.size) (hm : z.size ≤ 9223372036854775807) (W : World) :
    Calls Tryz.prog 124 #[.string z, .int .i64 (a : Nat)] W fun e w' => e = .returned (.int .i64 (w2 z a : Nat)) ∧ W = w' := by
  have hs : (z.extract a (a + 2)).size = 2 := by rw [ByteArray.size_extract]; omega
  have K := fun u => number_calls (z.extract a (a + 2)) 2 hs (by omega) u
  rw [show lo (z.extract a (a + 2)) 2 = w2 z a from by rw [lo_2, w2_ext z a (a + 2) 0 h (by omega)]; rfl] at K
  have HC := fun w => cut_at z a 2 h w
  have hw : IntKind.i64.wrap ((a : Int) + 2) = (a : Int) + 2 := IntWalk.i64_in _ (by omega)
  obtain ⟨y, hy⟩ : ∃ y, z.extract a (a + 2) = y := ⟨_, rfl⟩
  obtain ⟨v, hv⟩ : ∃ v, w2 z a = v := ⟨_, rfl⟩
  obtain ⟨b, hb⟩ : ∃ b : Nat, a + 2 = b := ⟨_, rfl⟩
  have hbi : (a : Int) + (2 : Nat) = (b : Int) ∨ True := .inr trivial
  rw [hy] at K HC
  rw [hv] at K ⊢
  have K := Lib.hid K
  have HC : ∀ w, (Instr.slice 9 (.string z) (some (.int .i64 (a : Int))) (some (.int .i64 ((a : Int) + 2))) none).run Tryz.prog w = .ok (.string y) w := HC
  obtain ⟨q, hq⟩ : ∃ q : Int, (a : Int) + 2 = q := ⟨_, rfl⟩
  rw [hq] at HC hw
  clear hs hy hv hb hbi h hm
  go_enter Tryz.func124, Tryz.ntmps124
  go_wp2_with fail
  refine (K.out _).mono ?_
  rintro e w' ⟨rfl, rfl⟩
  go_wp2
  go_ret
  exact ⟨rfl, rfl⟩

set_option maxRecDepth 100000 in
theorem long_calls (z : ByteArray) (a : Nat) (h : a + 4 ≤ z.size) (hm : z.size ≤ 9223372036854775807) (W : World) :
    Calls Tryz.prog 153 #[.string z, .int .i64 (a : Nat)] W fun e w' => e = .returned (.int .i64 (w4 z a : Nat)) ∧ W = w' := by
  have hs : (z.extract a (a + 4)).size = 4 := by rw [ByteArray.size_extract]; omega
  have K := fun u => number_calls (z.extract a (a + 4)) 4 hs (by omega) u
  rw [show lo (z.extract a (a + 4)) 4 = w4 z a from by rw [lo_4, w4_ext z a (a + 4) 0 h (by omega)]; rfl] at K
  have HC := fun w => cut_at z a 4 h w
  have hw : IntKind.i64.wrap ((a : Int) + 4) = (a : Int) + 4 := IntWalk.i64_in _ (by omega)
  obtain ⟨y, hy⟩ : ∃ y, z.extract a (a + 4) = y := ⟨_, rfl⟩
  obtain ⟨v, hv⟩ : ∃ v, w4 z a = v := ⟨_, rfl⟩
  obtain ⟨b, hb⟩ : ∃ b : Nat, a + 4 = b := ⟨_, rfl⟩
  have hbi : (a : Int) + (2 : Nat) = (b : Int) ∨ True := .inr trivial
  rw [hy] at K HC
  rw [hv] at K ⊢
  have K := Lib.hid K
  have HC : ∀ w, (Instr.slice 9 (.string z) (some (.int .i64 (a : Int))) (some (.int .i64 ((a : Int) + 4))) none).run Tryz.prog w = .ok (.string y) w := HC
  obtain ⟨q, hq⟩ : ∃ q : Int, (a : Int) + 4 = q := ⟨_, rfl⟩
  rw [hq] at HC hw
  clear hs hy hv hb hbi h hm
  go_enter Tryz.func153, Tryz.ntmps153
  go_wp2_with fail
  refine (K.out _).mono ?_
  rintro e w' ⟨rfl, rfl⟩
  go_wp2
  go_ret
  exact ⟨rfl, rfl⟩

/-- A side by its byte. -/
def sdI (c : Nat) : Nat := if c = 0 then 256 else c
theorem side_calls (c : Nat) (hc : c < 256) (W : World) : Calls Tryz.prog 152 #[.int .u8 (c : Nat)] W fun e w' => e = .returned (.int .i64 (sdI c : Nat)) ∧ W = w' := by
  by_cases h : c = 0
  · subst h
    go_enter Tryz.func152, Tryz.ntmps152
    go_wp2
    go_ret
    exact ⟨rfl, rfl⟩
  · rw [show sdI c = c from if_neg h]
    have h1 : ((c : Int) == 0) = false := by rw [beq_eq_false_iff_ne]; omega
    have h2 : ¬ (c : Int) = 0 := by omega
    go_enter Tryz.func152, Tryz.ntmps152
    go_wp2
    go_ret
    exact ⟨rfl, rfl⟩

theorem end_calls (n : Nat) (hn : n ≤ 300000000000000000) (W : World) : Calls Tryz.prog 126 #[.int .i64 (n : Nat)] W fun e w' => e = .returned (.int .i64 (6 + 16 * n : Nat)) ∧ W = w' := by
  go_enter Tryz.func126, Tryz.ntmps126
  go_wp2
  go_ret
  exact ⟨by go_num, rfl⟩

theorem bad_calls (a : Int) (W : World) :
    Calls Tryz.prog 123 #[.int .i64 a] W fun e w' => e = .returned (.agg #[.int .i64 2, .int .i64 4, .int .i64 a]) ∧ W.grownBy w' none := by
  go_enter Tryz.func123, Tryz.ntmps123
  go_wp2
  refine bodyPost_ret (v := .agg #[.int .i64 2, .int .i64 4, .int .i64 a]) (by simp only [results, Tryz.results123]; go_simp) rfl ⟨rfl, ?_⟩
  exact World.grownBy_alloc _ _ _

/-- An entry's numbers. -/
def eW (T : ByteArray) (q : Nat) : Nat := sdI (bn T q)
def eH (T : ByteArray) (q : Nat) : Nat := sdI (bn T (q + 1))
def eA (T : ByteArray) (q : Nat) : Nat := w2 T (q + 4)
def eB (T : ByteArray) (q : Nat) : Nat := w2 T (q + 6)
def eS (T : ByteArray) (q : Nat) : Nat := w4 T (q + 8)
def eP (T : ByteArray) (q : Nat) : Nat := w4 T (q + 12)
theorem sd_bd (c : Nat) (h : c < 256) : 1 ≤ sdI c ∧ sdI c ≤ 256 := by unfold sdI; split <;> omega
theorem eW_bd (T : ByteArray) (q : Nat) : 1 ≤ eW T q ∧ eW T q ≤ 256 := sd_bd _ (bn_lt _ _)
theorem eH_bd (T : ByteArray) (q : Nat) : 1 ≤ eH T q ∧ eH T q ≤ 256 := sd_bd _ (bn_lt _ _)
def enV (T : ByteArray) (q : Nat) : Array Value := #[.int .i64 (eW T q : Nat), .int .i64 (eH T q : Nat), .int .i64 (eA T q : Nat), .int .i64 (eB T q : Nat), .int .i64 (eS T q : Nat), .int .i64 (eP T q : Nat)]
theorem eW_ext (T : ByteArray) (p q : Nat) (h : q + 16 ≤ T.size) : enV (T.extract q (q + 16)) 0 = enV T q := by
  have h0 := bn_ext T q (q + 16) 0 h (by omega)
  have h1 := bn_ext T q (q + 16) 1 h (by omega)
  have h4 := w2_ext T q (q + 16) 4 h (by omega)
  have h6 := w2_ext T q (q + 16) 6 h (by omega)
  have h8 := w4_ext T q (q + 16) 8 h (by omega)
  have h12 := w4_ext T q (q + 16) 12 h (by omega)
  unfold enV eW eH eA eB eS eP
  simp only [Nat.zero_add, Nat.add_zero] at h0 h1 h4 h6 h8 h12 ⊢
  rw [h0, h1, h4, h6, h8, h12]

/-- Where the first thing stands that is wrong with six bytes. -/
def wrB (z : ByteArray) : Bool := decide (w2 z 0 ≠ 0 ∨ (w2 z 2 ≠ 1 ∧ w2 z 2 ≠ 2) ∨ w2 z 4 = 0)
def wrP (z : ByteArray) : Int := if w2 z 0 ≠ 0 then 0 else if w2 z 2 ≠ 1 ∧ w2 z 2 ≠ 2 then 2 else if w2 z 4 = 0 then 4 else 0

end Go.Proofs.YtfhcefglefkakaaGreatDoor.Id
