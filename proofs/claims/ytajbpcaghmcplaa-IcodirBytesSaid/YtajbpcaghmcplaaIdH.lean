/- Layer 24: a directory's bytes, told again (written by wip/gen/idc.py). -/
import Derived.Test.YtajbpcaghmcplaaIdC
namespace Go.Proofs.Ytajbpcaghmcplaa.Id
open Go.ChangeShapes Go.WideShapes Go.ChangeAt Go.RowKit
open Go.Proofs.Ytajbpcaghmcplaa.Le Go.Proofs.Ytajbpcaghmcplaa.Sr Go.Proofs.Ytajbpcaghmcplaa.Dh
set_option linter.unusedVariables false

theorem fst12 (p0 p1 p2 p3 p4 p5 p6 p7 p8 p9 p10 p11 : Prop) (h : (p0 ∧ p1 ∧ p2 ∧ p3 ∧ p4 ∧ p5 ∧ p6 ∧ p7 ∧ p8 ∧ p9 ∧ p10 ∧ p11) → False) : (¬ p0) ∨ (p0 ∧ ¬ p1) ∨ (p0 ∧ p1 ∧ ¬ p2) ∨ (p0 ∧ p1 ∧ p2 ∧ ¬ p3) ∨ (p0 ∧ p1 ∧ p2 ∧ p3 ∧ ¬ p4) ∨ (p0 ∧ p1 ∧ p2 ∧ p3 ∧ p4 ∧ ¬ p5) ∨ (p0 ∧ p1 ∧ p2 ∧ p3 ∧ p4 ∧ p5 ∧ ¬ p6) ∨ (p0 ∧ p1 ∧ p2 ∧ p3 ∧ p4 ∧ p5 ∧ p6 ∧ ¬ p7) ∨ (p0 ∧ p1 ∧ p2 ∧ p3 ∧ p4 ∧ p5 ∧ p6 ∧ p7 ∧ ¬ p8) ∨ (p0 ∧ p1 ∧ p2 ∧ p3 ∧ p4 ∧ p5 ∧ p6 ∧ p7 ∧ p8 ∧ ¬ p9) ∨ (p0 ∧ p1 ∧ p2 ∧ p3 ∧ p4 ∧ p5 ∧ p6 ∧ p7 ∧ p8 ∧ p9 ∧ ¬ p10) ∨ (p0 ∧ p1 ∧ p2 ∧ p3 ∧ p4 ∧ p5 ∧ p6 ∧ p7 ∧ p8 ∧ p9 ∧ p10 ∧ ¬ p11) := by
  by_cases h0 : p0
  rotate_left
  · exact .inl h0
  by_cases h1 : p1
  rotate_left
  · exact .inr (.inl ⟨h0, h1⟩)
  by_cases h2 : p2
  rotate_left
  · exact .inr (.inr (.inl ⟨h0, h1, h2⟩))
  by_cases h3 : p3
  rotate_left
  · exact .inr (.inr (.inr (.inl ⟨h0, h1, h2, h3⟩)))
  by_cases h4 : p4
  rotate_left
  · exact .inr (.inr (.inr (.inr (.inl ⟨h0, h1, h2, h3, h4⟩))))
  by_cases h5 : p5
  rotate_left
  · exact .inr (.inr (.inr (.inr (.inr (.inl ⟨h0, h1, h2, h3, h4, h5⟩)))))
  by_cases h6 : p6
  rotate_left
  · exact .inr (.inr (.inr (.inr (.inr (.inr (.inl ⟨h0, h1, h2, h3, h4, h5, h6⟩))))))
  by_cases h7 : p7
  rotate_left
  · exact .inr (.inr (.inr (.inr (.inr (.inr (.inr (.inl ⟨h0, h1, h2, h3, h4, h5, h6, h7⟩)))))))
  by_cases h8 : p8
  rotate_left
  · exact .inr (.inr (.inr (.inr (.inr (.inr (.inr (.inr (.inl ⟨h0, h1, h2, h3, h4, h5, h6, h7, h8⟩))))))))
  by_cases h9 : p9
  rotate_left
  · exact .inr (.inr (.inr (.inr (.inr (.inr (.inr (.inr (.inr (.inl ⟨h0, h1, h2, h3, h4, h5, h6, h7, h8, h9⟩)))))))))
  by_cases h10 : p10
  rotate_left
  · exact .inr (.inr (.inr (.inr (.inr (.inr (.inr (.inr (.inr (.inr (.inl ⟨h0, h1, h2, h3, h4, h5, h6, h7, h8, h9, h10⟩))))))))))
  by_cases h11 : p11
  rotate_left
  · exact .inr (.inr (.inr (.inr (.inr (.inr (.inr (.inr (.inr (.inr (.inr (⟨h0, h1, h2, h3, h4, h5, h6, h7, h8, h9, h10, h11⟩)))))))))))
  exact (h ⟨h0, h1, h2, h3, h4, h5, h6, h7, h8, h9, h10, h11⟩).elim

theorem enB_at (e : Nat → Int) : enB e 0 = byF (e 0).toNat 0 ∧ enB e 1 = byF (e 1).toNat 0 ∧ enB e 2 = 0 ∧ enB e 3 = 0 ∧ enB e 4 = byF (e 2).toNat 0 ∧ enB e 5 = byF (e 2).toNat 1 ∧ enB e 6 = byF (e 3).toNat 0 ∧ enB e 7 = byF (e 3).toNat 1 ∧ enB e 8 = byF (e 4).toNat 0 ∧ enB e 9 = byF (e 4).toNat 1 ∧ enB e 10 = byF (e 4).toNat 2 ∧ enB e 11 = byF (e 4).toNat 3 ∧ enB e 12 = byF (e 5).toNat 0 ∧ enB e 13 = byF (e 5).toNat 1 ∧ enB e 14 = byF (e 5).toNat 2 ∧ enB e 15 = byF (e 5).toNat 3 := by
  unfold enB enF puF
  refine ⟨?_, ?_, ?_, ?_, ?_, ?_, ?_, ?_, ?_, ?_, ?_, ?_, ?_, ?_, ?_, ?_⟩ <;> simp
theorem by0 (v : Nat) : byF v 0 = v % 256 := by unfold byF; rw [Nat.pow_zero, Nat.div_one]
theorem by1 (v : Nat) : byF v 1 = v / 256 % 256 := by unfold byF; rw [Nat.pow_one]
theorem by2 (v : Nat) : byF v 2 = v / 65536 % 256 := rfl
theorem by3 (v : Nat) : byF v 3 = v / 16777216 % 256 := rfl
theorem txt_bn (cu : Bool) (n : Nat) (E : Nat → Nat → Int) (i j : Nat) (hi : i < n) (hj : j < 16) : bn (txF (6 + 16 * n) (dirF cu n E n)) (6 + 16 * i + j) = enB (E i) j := by
  rw [txF_bn _ _ _ (by omega) (dirF_lt _ _ _ _ _)]
  unfold dirF
  rw [if_neg (by omega), if_pos (by omega), show (6 + 16 * i + j - 6) / 16 = i from by omega, show (6 + 16 * i + j - 6) % 16 = j from by omega]
theorem sd_mod (w : Nat) (h1 : 1 ≤ w) (h2 : w ≤ 256) : sdI (w % 256) = w := by
  unfold sdI
  split <;> omega
theorem ent_back (cu : Bool) (n : Nat) (E : Nat → Nat → Int) (i : Nat) (hi : i < n) (hf : ftE (E i) = true) :
    enV (txF (6 + 16 * n) (dirF cu n E n)) (qE 0 i) = #[.int .i64 (E i 0), .int .i64 (E i 1), .int .i64 (E i 2), .int .i64 (E i 3), .int .i64 (E i 4), .int .i64 (E i 5)] := by
  obtain ⟨w, h, a, b, s, p, z0, z1, z2, z3, z4, z5, bw1, bw2, bh1, bh2, ba, bb, bs, bp⟩ := ft_nat hf
  have hb := fun j (hj : j < 16) => txt_bn cu n E i j hi hj
  obtain ⟨a0, a1, _, _, a4, a5, a6, a7, a8, a9, a10, a11, a12, a13, a14, a15⟩ := enB_at (E i)
  rw [z0, Int.toNat_natCast, by0] at a0
  rw [z1, Int.toNat_natCast, by0] at a1
  rw [z2, Int.toNat_natCast] at a4 a5
  rw [z3, Int.toNat_natCast] at a6 a7
  rw [z4, Int.toNat_natCast] at a8 a9 a10 a11
  rw [z5, Int.toNat_natCast] at a12 a13 a14 a15
  have q0 := hb 0 (by decide)
  have q1 := hb 1 (by decide)
  have q4 := hb 4 (by decide)
  have q5 := hb 5 (by decide)
  have q6 := hb 6 (by decide)
  have q7 := hb 7 (by decide)
  have q8 := hb 8 (by decide)
  have q9 := hb 9 (by decide)
  have q10 := hb 10 (by decide)
  have q11 := hb 11 (by decide)
  have q12 := hb 12 (by decide)
  have q13 := hb 13 (by decide)
  have q14 := hb 14 (by decide)
  have q15 := hb 15 (by decide)
  rw [by0] at a4 a6 a8 a12
  rw [by1] at a5 a7 a9 a13
  rw [by2] at a10 a14
  rw [by3] at a11 a15
  have eq : qE 0 i = 6 + 16 * i := by unfold qE; omega
  rw [eq, z0, z1, z2, z3, z4, z5]
  generalize txF (6 + 16 * n) (dirF cu n E n) = T at *
  have e0 : eW T (6 + 16 * i) = w := by unfold eW; rw [Nat.add_zero] at q0; rw [q0, a0]; exact sd_mod w bw1 bw2
  have e1 : eH T (6 + 16 * i) = h := by unfold eH; rw [q1, a1]; exact sd_mod h bh1 bh2
  have e2 : eA T (6 + 16 * i) = a := by unfold eA w2; rw [q4, q5, a4, a5]; omega
  have e3 : eB T (6 + 16 * i) = b := by unfold eB w2; rw [q6, q7, a6, a7]; omega
  have e4 : eS T (6 + 16 * i) = s := by unfold eS w4; rw [q8, q9, q10, q11, a8, a9, a10, a11]; omega
  have e5 : eP T (6 + 16 * i) = p := by unfold eP w4; rw [q12, q13, q14, q15, a12, a13, a14, a15]; omega
  unfold enV
  rw [e0, e1, e2, e3, e4, e5]
theorem hd_bn (cu : Bool) (n : Nat) (E : Nat → Nat → Int) (j : Nat) (hj : j < 6) : bn (txF (6 + 16 * n) (dirF cu n E n)) j = hdF cu n j := by
  rw [txF_bn _ _ _ (by omega) (dirF_lt _ _ _ _ _)]
  unfold dirF
  rw [if_pos hj]
theorem hd_at (cu : Bool) (n : Nat) (hn : n < 65536) : hdF cu n 0 = 0 ∧ hdF cu n 1 = 0 ∧ hdF cu n 2 = (if cu then 2 else 1) ∧ hdF cu n 3 = 0 ∧ hdF cu n 4 = n % 256 ∧ hdF cu n 5 = n / 256 := by
  unfold hdF puF
  refine ⟨?_, ?_, ?_, ?_, ?_, ?_⟩
  · simp
  · simp
  · cases cu <;> simp [byF]
  · cases cu <;> simp [byF]
  · simp [byF]
  · simp [byF]; omega
/-- What the law asks of the bytes. -/
theorem head_back (cu : Bool) (n : Nat) (E : Nat → Nat → Int) (h1 : 1 ≤ n) (hn : n < 65536) (T : ByteArray) (hT : txF (6 + 16 * n) (dirF cu n E n) = T) : T.size = 6 + 16 * n ∧ bn T 0 = 0 ∧ bn T 1 = 0 ∧ bn T 2 = (if cu then 2 else 1) ∧ bn T 3 = 0 ∧ w2 T 4 = n ∧ isB T = true := by
  obtain ⟨a0, a1, a2, a3, a4, a5⟩ := hd_at cu n hn
  have q := fun j hj => hd_bn cu n E j hj
  rw [hT] at q
  have hs : T.size = 6 + 16 * n := by rw [← hT]; exact txF_size _ _
  have b0 := (q 0 (by decide)).trans a0
  have b1 := (q 1 (by decide)).trans a1
  have b2 := (q 2 (by decide)).trans a2
  have b3 := (q 3 (by decide)).trans a3
  have b4 := (q 4 (by decide)).trans a4
  have b5 := (q 5 (by decide)).trans a5
  have b9 : bn T 9 = 0 := by
    have := txt_bn cu n E 0 3 (by omega) (by decide)
    rw [hT] at this
    rw [show 9 = 6 + 16 * 0 + 3 from rfl, this]
    exact (enB_at (E 0)).2.2.2.1
  have hw : w2 T 4 = n := by unfold w2; rw [b4, b5]; omega
  refine ⟨hs, b0, b1, b2, b3, hw, ?_⟩
  unfold isB wrB
  rw [decide_eq_true (show 10 ≤ T.size by omega), Bool.true_and, hw]
  have h2 : w2 T 2 = (if cu then 2 else 1) := by unfold w2; rw [b2, b3]; rfl
  have h0 : w2 T 0 = 0 := by unfold w2; rw [b0, b1]
  rw [h0, h2, b9, decide_eq_false (by cases cu <;> simp <;> omega)]
  rfl

set_option maxRecDepth 100000 in
theorem bytes_far (cu : Bool) (a : Option Addr) (n cap : Nat) (h : 20 < n) (W : World) :
    Calls Try.prog 5 #[.bool cu, .slice a n cap] W fun e w' => e = .returned (.bool true) ∧ W.grownBy w' none := by
  have d0 : (20 : Int) < (n : Int) := by omega
  have KA := Lib.hid (fun u => awake_calls u)
  go_enter Try.func5, Try.ntmps5
  go_wp2_with fail
  refine (KA.out _).mono ?_
  rintro e w1 ⟨rfl, g1⟩
  have G1 := Lib.hid g1
  clear g1
  go_wp2
  go_ret
  exact ⟨rfl, G1.out⟩

set_option maxRecDepth 100000 in
theorem bytes_zero (cu : Bool) (a : Option Addr) (cap : Nat) (W : World) :
    Calls Try.prog 5 #[.bool cu, .slice a 0 cap] W fun e w' => e = .returned (.bool true) ∧ W.grownBy w' none := by
  have KA := Lib.hid (fun u => awake_calls u)
  have KB := Lib.hid (fun u => bytes_none cu a cap u)
  have se : ((⟨#[]⟩ : ByteArray).toList == (⟨#[]⟩ : ByteArray).toList) = true := beq_self_eq_true _
  go_enter Try.func5, Try.ntmps5
  go_wp2_with fail
  refine (KB.out _).mono ?_
  rintro e w1 ⟨rfl, rfl⟩
  go_wp2_with fail
  go_loopg [7, 29] 0 (fun m bv iv wr => bv = .bool false ∧ iv = .int .i64 0 ∧ m = 0 ∧ W = wr)
  case atStart => exact ⟨rfl, rfl, rfl, rfl⟩
  case round =>
    obtain ⟨rfl, rfl, rfl, rfl⟩ := hrel
    go_wp2_with fail
    refine (KA.out _).mono ?_
    rintro e w1 ⟨rfl, g1⟩
    have G1 := Lib.hid g1
    clear g1
    go_wp2
    go_ret
    exact ⟨rfl, G1.out⟩

set_option maxRecDepth 100000 in
set_option maxHeartbeats 4000000 in
theorem bytes_badl (cu : Bool) (lb lo n cap t : Nat) (E : Nat → Nat → Int) (W : World) (h0 : 0 < n) (hn : n ≤ 20) (HE : EnsAt lb lo n E W) (ht : t < n) (hok : ∀ i, i < t → ftE (E i) = true) (hbad : ftE (E t) = false) :
    Calls Try.prog 5 #[.bool cu, .slice (some ⟨lb, lo, none⟩) n cap] W fun e w' => e = .returned (.bool true) ∧ W.grownBy w' none := by
  have d0 : ¬ (20 : Int) < (n : Int) := by omega
  have d1 : (0 : Int) < (n : Int) := by omega
  have KA := Lib.hid (fun u => awake_calls u)
  have HEE := Lib.hid HE
  have HOK := Lib.hid hok
  have HNN := Lib.hid (And.intro h0 hn)
  have HST := Lib.hid (show t = n ∨ (t < n ∧ ftE (E t) = false) from .inr ⟨ht, hbad⟩)
  have HTN := Lib.hid ht
  have KB := bytes_calls cu lb lo n cap t E W h0 (by omega) HE (by omega) hok (.inr ⟨ht, hbad⟩)
  rw [if_neg (by omega)] at KB
  have KB := Lib.hid KB
  have se : ((⟨#[]⟩ : ByteArray).toList == (⟨#[]⟩ : ByteArray).toList) = true := beq_self_eq_true _
  clear HE hok hbad ht h0 hn
  go_enter Try.func5, Try.ntmps5
  go_wp2_with fail
  refine KB.out.mono ?_
  rintro e w1 ⟨rfl, g1⟩
  have HG0 := Lib.hid g1
  clear g1 KB
  go_wp2_with fail
  go_loopg [7, 29] n (fun m bv iv wr => ∃ i : Nat, i ≤ n ∧ bv = .bool (decide (i ≤ t)) ∧ iv = .int .i64 (i : Nat) ∧ m = n - i ∧ W.grownBy wr none)
  case atStart => exact ⟨0, Nat.zero_le _, by first | rfl | (simp; done) | (simp; exact HNN.out.1), rfl, rfl, HG0.out⟩
  case round =>
    obtain ⟨i, hin, rfl, rfl, rfl, hG⟩ := hrel
    have HG := Lib.hid hG
    clear hG HG0
    by_cases hlt : i < n
    · have hlti : (i : Int) < (n : Int) := by omega
      have CE := HEE.out.grown HG.out i hlt
      have c0 := CE 0 (by decide)
      have c1 := CE 1 (by decide)
      have c2 := CE 2 (by decide)
      have c3 := CE 3 (by decide)
      have c4 := CE 4 (by decide)
      have c5 := CE 5 (by decide)
      rw [Nat.add_zero] at c0
      clear CE
      have FT := Lib.hid (show i < t → ftE (E i) = true from fun h => HOK.out i h)
      have FF := Lib.hid (show i = t → ftE (E i) = false from fun h => by obtain h9 | ⟨-, h9⟩ := HST.out; omega; rw [h]; exact h9)
      unfold ftE ftB sdB nmB at FT FF
      simp only [Bool.and_eq_true, decide_eq_true_eq] at FT
      obtain ⟨x0, hx0⟩ : ∃ x, E i 0 = x := ⟨_, rfl⟩
      obtain ⟨x1, hx1⟩ : ∃ x, E i 1 = x := ⟨_, rfl⟩
      obtain ⟨x2, hx2⟩ : ∃ x, E i 2 = x := ⟨_, rfl⟩
      obtain ⟨x3, hx3⟩ : ∃ x, E i 3 = x := ⟨_, rfl⟩
      obtain ⟨x4, hx4⟩ : ∃ x, E i 4 = x := ⟨_, rfl⟩
      obtain ⟨x5, hx5⟩ : ∃ x, E i 5 = x := ⟨_, rfl⟩
      rw [hx0] at c0
      rw [hx1] at c1
      rw [hx2] at c2
      rw [hx3] at c3
      rw [hx4] at c4
      rw [hx5] at c5
      rw [hx0, hx1, hx2, hx3, hx4, hx5] at FT FF
      clear hx0 hx1 hx2 hx3 hx4 hx5
      have hw1 : IntKind.i64.wrap ((i : Int) + 1) = (i : Int) + 1 := IntWalk.i64_in _ (by have := HNN.out; omega)
      have HIN := Lib.hid hin
      by_cases hit : i ≤ t
      · rw [decide_eq_true hit]
        by_cases hitt : i < t
        · obtain ⟨⟨a1, a2⟩, ⟨a3, a4⟩, ⟨a5, a6⟩, ⟨a7, a8⟩, ⟨a9, a10⟩, a11, a12⟩ := FT.out hitt
          have a6' : x2 ≤ 65535 := by omega
          have a8' : x3 ≤ 65535 := by omega
          have a10' : x4 ≤ 4294967295 := by omega
          have a12' : x5 ≤ 4294967295 := by omega
          have HIT := Lib.hid hitt
          clear FT FF hit hitt hin a6 a8 a10 a12
          go_wp2
          go_roundg (n - (i + 1))
          case measure => omega
          case rel => exact ⟨i + 1, by omega, by rw [decide_eq_true (show i + 1 ≤ t from HIT.out)], by go_num, rfl, gb_trans HG.out (World.grownBy_alloc _ _ none)⟩
        · have hit2 : i = t := by omega
          have bad := FF.out hit2
          have WAYS : (¬ 1 ≤ x0) ∨ (1 ≤ x0 ∧ ¬ x0 ≤ 256) ∨ (1 ≤ x0 ∧ x0 ≤ 256 ∧ ¬ 1 ≤ x1) ∨ (1 ≤ x0 ∧ x0 ≤ 256 ∧ 1 ≤ x1 ∧ ¬ x1 ≤ 256) ∨ (1 ≤ x0 ∧ x0 ≤ 256 ∧ 1 ≤ x1 ∧ x1 ≤ 256 ∧ ¬ 0 ≤ x2) ∨ (1 ≤ x0 ∧ x0 ≤ 256 ∧ 1 ≤ x1 ∧ x1 ≤ 256 ∧ 0 ≤ x2 ∧ ¬ x2 ≤ 65535) ∨ (1 ≤ x0 ∧ x0 ≤ 256 ∧ 1 ≤ x1 ∧ x1 ≤ 256 ∧ 0 ≤ x2 ∧ x2 ≤ 65535 ∧ ¬ 0 ≤ x3) ∨ (1 ≤ x0 ∧ x0 ≤ 256 ∧ 1 ≤ x1 ∧ x1 ≤ 256 ∧ 0 ≤ x2 ∧ x2 ≤ 65535 ∧ 0 ≤ x3 ∧ ¬ x3 ≤ 65535) ∨ (1 ≤ x0 ∧ x0 ≤ 256 ∧ 1 ≤ x1 ∧ x1 ≤ 256 ∧ 0 ≤ x2 ∧ x2 ≤ 65535 ∧ 0 ≤ x3 ∧ x3 ≤ 65535 ∧ ¬ 0 ≤ x4) ∨ (1 ≤ x0 ∧ x0 ≤ 256 ∧ 1 ≤ x1 ∧ x1 ≤ 256 ∧ 0 ≤ x2 ∧ x2 ≤ 65535 ∧ 0 ≤ x3 ∧ x3 ≤ 65535 ∧ 0 ≤ x4 ∧ ¬ x4 ≤ 4294967295) ∨ (1 ≤ x0 ∧ x0 ≤ 256 ∧ 1 ≤ x1 ∧ x1 ≤ 256 ∧ 0 ≤ x2 ∧ x2 ≤ 65535 ∧ 0 ≤ x3 ∧ x3 ≤ 65535 ∧ 0 ≤ x4 ∧ x4 ≤ 4294967295 ∧ ¬ 0 ≤ x5) ∨ (1 ≤ x0 ∧ x0 ≤ 256 ∧ 1 ≤ x1 ∧ x1 ≤ 256 ∧ 0 ≤ x2 ∧ x2 ≤ 65535 ∧ 0 ≤ x3 ∧ x3 ≤ 65535 ∧ 0 ≤ x4 ∧ x4 ≤ 4294967295 ∧ 0 ≤ x5 ∧ ¬ x5 ≤ 4294967295) := by
            refine fst12 _ _ _ _ _ _ _ _ _ _ _ _ (fun b => ?_)
            · obtain ⟨b1, b2, b3, b4, b5, b6, b7, b8, b9, b10, b11, b12⟩ := b
              have : (decide (1 ≤ x0 ∧ x0 ≤ 256) && (decide (1 ≤ x1 ∧ x1 ≤ 256) && (decide (0 ≤ x2 ∧ x2 < 65536) && (decide (0 ≤ x3 ∧ x3 < 65536) && (decide (0 ≤ x4 ∧ x4 < 4294967296) && decide (0 ≤ x5 ∧ x5 < 4294967296)))))) = true := by
                simp only [Bool.and_eq_true, decide_eq_true_eq]
                exact ⟨⟨b1, b2⟩, ⟨b3, b4⟩, ⟨b5, by omega⟩, ⟨b7, by omega⟩, ⟨b9, by omega⟩, b11, by omega⟩
              rw [this] at bad
              cases bad
          have HIT := Lib.hid (show ¬ i + 1 ≤ t by omega)
          clear FT FF hit hitt hin bad hit2
          rcases WAYS with b0 | ⟨b0, b1⟩ | ⟨b0, b1, b2⟩ | ⟨b0, b1, b2, b3⟩ | ⟨b0, b1, b2, b3, b4⟩ | ⟨b0, b1, b2, b3, b4, b5⟩ | ⟨b0, b1, b2, b3, b4, b5, b6⟩ | ⟨b0, b1, b2, b3, b4, b5, b6, b7⟩ | ⟨b0, b1, b2, b3, b4, b5, b6, b7, b8⟩ | ⟨b0, b1, b2, b3, b4, b5, b6, b7, b8, b9⟩ | ⟨b0, b1, b2, b3, b4, b5, b6, b7, b8, b9, b10⟩ | ⟨b0, b1, b2, b3, b4, b5, b6, b7, b8, b9, b10, b11⟩
          all_goals
            go_wp2
            go_roundg (n - (i + 1))
            case measure => omega
            case rel => exact ⟨i + 1, by omega, by rw [decide_eq_false HIT.out], by go_num, rfl, gb_trans HG.out (World.grownBy_alloc _ _ none)⟩
      · rw [decide_eq_false hit]
        have HIT := Lib.hid (show ¬ i + 1 ≤ t by omega)
        clear FT FF hit hin
        go_wp2
        go_roundg (n - (i + 1))
        case measure => omega
        case rel => exact ⟨i + 1, by omega, by rw [decide_eq_false HIT.out], by go_num, rfl, gb_trans HG.out (World.grownBy_alloc _ _ none)⟩
    · obtain rfl : i = n := by omega
      clear hlt hin
      rw [decide_eq_false (show ¬ i ≤ t by have := HTN.out; omega)]
      go_wp2_with fail
      refine (KA.out _).mono ?_
      rintro e w2 ⟨rfl, g2⟩
      have G2 := Lib.hid (gb_trans HG.out g2)
      clear g2
      go_wp2
      go_ret
      exact ⟨rfl, G2.out⟩


end Go.Proofs.Ytajbpcaghmcplaa.Id
