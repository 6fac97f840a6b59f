/- Texts of one kind, one behind the other: Sh1, Sh2, Sh3, Sh4. -/
import Derived.Deep.LoopGhost
import Derived.Deep.RegionHeld3
import Derived.Test.YtmhghkgcfgacdaaGreatG09
/- What heads of two formats have in common: a sign, two sides; the small calls. -/
namespace Go.Proofs.YtmhghkgcfgacdaaGreat.Sh
open Go.ChangeShapes Go.WideShapes Go.ChangeAt Go.RowKit
open Go.Proofs.YtmhghkgcfgacdaaGreat.Le Go.Proofs.YtmhghkgcfgacdaaGreat.Tk Go.Proofs.YtmhghkgcfgacdaaGreat.Sr
set_option linter.unusedVariables false

/-- The first K bytes are the sign's, and the next one, if there is one, isn't. -/
structure MK (sg s : ByteArray) (K : Nat) : Prop where
  le : K ≤ sg.size
  yes : ∀ j, j < K → bt s j = bt sg j
  no : K < sg.size → bt s K ≠ bt sg K
theorem mk_ex (sg s : ByteArray) : ∃ K, MK sg s K := by
  have : ∀ n, n ≤ sg.size → (∀ j, j < sg.size - n → bt s j = bt sg j) → ∃ K, MK sg s K := by
    intro n
    induction n with
    | zero => intro _ h; exact ⟨sg.size, Nat.le_refl _, h, fun h => absurd h (Nat.lt_irrefl _)⟩
    | succ n ih =>
      intro hn h
      by_cases hk : bt s (sg.size - (n + 1)) = bt sg (sg.size - (n + 1))
      · exact ih (by omega) (fun j hj => by
          by_cases e : j = sg.size - (n + 1)
          · rw [e]; exact hk
          · exact h j (by omega))
      · exact ⟨sg.size - (n + 1), by omega, h, fun _ => hk⟩
  exact this sg.size (Nat.le_refl _) (fun j hj => absurd hj (by omega))
/-- A number of four bytes. -/
def beV (s : ByteArray) (a : Nat) : Nat := Sr.numV true (s.extract a (a + 4))
theorem ex_size (s : ByteArray) (a : Nat) : (s.extract a (a + 4)).size ≤ 4 := by rw [ByteArray.size_extract]; omega
theorem beV_lt (s : ByteArray) (a : Nat) : beV s a < 4294967296 := num_lt true _ (ex_size s a)
theorem beV_bd (s : ByteArray) (a : Nat) : ((beV s a : Nat) : Int) < 4294967296 := by have := beV_lt s a; omega
/-- What is wrong with a side. -/
def sdK (n : Nat) : Nat := if n = 0 then 2 else if 16384 < n then 3 else 0
/-- What is wrong with a head's sign and sides, and where. -/
def kdS (m K w h : Nat) : Nat := if K < m then 2 else if sdK w ≠ 0 then sdK w else sdK h
def plS (m K w h : Nat) : Nat := if K < m then K else if sdK w ≠ 0 then m else if sdK h ≠ 0 then m + 4 else 0
theorem sdK_le (n : Nat) : sdK n ≤ 3 := by unfold sdK; split; omega; split <;> omega
theorem sdK_0 {n : Nat} (h : sdK n = 0) : 1 ≤ n ∧ n ≤ 16384 := by unfold sdK at h; split at h; omega; split at h <;> omega
theorem kdS_le (m K w h : Nat) : kdS m K w h ≤ 3 := by
  unfold kdS
  split
  · omega
  · split
    · exact sdK_le w
    · exact sdK_le h

theorem or_low (v c : Nat) (hv : v < 16777216) (hc : c < 256) : bits .or .i64 ((v : Int) * 256) (c : Int) = ((256 * v + c : Nat) : Int) := by
  have hn : (v * 256) ||| c = 256 * v + c := by
    have := Nat.shiftLeft_add_eq_or_of_lt (i := 8) (b := c) (by omega) v
    rw [show v * 256 = v <<< 8 from by rw [Nat.shiftLeft_eq], ← this, Nat.shiftLeft_eq]
    omega
  have h1 : (BitVec.ofInt 64 (c : Int)).toNat = c := by
    rw [BitVec.ofInt_natCast, BitVec.toNat_ofNat]; exact Nat.mod_eq_of_lt (by omega)
  have h2 : (BitVec.ofInt 64 ((v * 256 : Nat) : Int)).toNat = v * 256 := by
    rw [BitVec.ofInt_natCast, BitVec.toNat_ofNat]; exact Nat.mod_eq_of_lt (by omega)
  have e : (v : Int) * 256 = ((v * 256 : Nat) : Int) := by omega
  rw [e]
  show IntKind.i64.wrap ((BitVec.ofInt 64 ((v * 256 : Nat) : Int) ||| BitVec.ofInt 64 (c : Int)).toNat : Int) = _
  rw [BitVec.toNat_or, h1, h2, hn, IntKind.wrap_i64]
  omega

set_option maxRecDepth 100000 in
set_option maxHeartbeats 400000 in
theorem number_calls (z : ByteArray) (hz : 4 ≤ z.size) (w : World) :
    Calls Tryz.prog 86 #[.string z] w fun e w' => e = .returned (.int .i64 (beV z 0 : Nat)) ∧ w = w' := by
  have HL := Lib.hid (Lib.size_eq z)
  unfold beV Sr.numV
  have e0 : ordd true (z.extract 0 (0 + 4)).data.toList = z.data.toList.take 4 := by
    rw [Lib.extract_data]
    simp [ordd]
  rw [e0]
  clear e0
  go_enter Tryz.func86, Tryz.ntmps86
  go_wp2_with fail
  go_loopg [3, 5] 4 (fun q vv iv wr => ∃ k : Nat, k ≤ 4 ∧ q = 4 - k ∧ vv = .int .i64 (acc (z.data.toList.take k)) ∧ iv = .int .i64 k ∧ w = wr)
  case atStart => exact ⟨0, by omega, rfl, rfl, rfl, rfl⟩
  case round =>
    obtain ⟨k, hk, rfl, rfl, rfl, rfl⟩ := hrel
    by_cases hlt : k < 4
    · have hl := HL.out
      have hkz : k < z.size := by omega
      have st := acc_step true z.data.toList k (by omega)
      have lt := Nat.lt_of_lt_of_le (acc_lt (z.data.toList.take k)) (Nat.pow_le_pow_right (by decide) (show _ ≤ 3 from by rw [List.length_take]; omega))
      have eo : ordd true z.data.toList = z.data.toList := rfl
      rw [eo] at st
      obtain ⟨v, hv⟩ : ∃ v, acc (z.data.toList.take k) = v := ⟨_, rfl⟩
      rw [hv] at st lt ⊢
      have hi : nxt true z.data.toList.length k = k := rfl
      simp only [hi] at st
      rw [byte_at' z k hkz (by omega)] at st
      have b255 := (z[k]'hkz).toNat_lt
      obtain ⟨c, hcz⟩ : ∃ c, (z[k]'hkz).toNat = c := ⟨_, rfl⟩
      rw [hcz] at st b255
      have OR := or_low v c (Nat.lt_of_lt_of_le lt (by decide)) b255
      have lt2 : v < 16777216 := Nat.lt_of_lt_of_le lt (by decide)
      have s1 : IntKind.i64.wrap ((v : Int) * 256) = (v : Int) * 256 := by rw [IntKind.wrap_i64]; omega
      have s2 : wrap64 ((v : Int) * 256) = (v : Int) * 256 := IntWalk.wrap64_in _ (by omega)
      have d4 : decide ((k : Int) < 4) = true := decide_eq_true (by omega)
      clear lt lt2
      have ST := Lib.hid st
      clear st hv hi hl eo hz
      go_wp2
      go_roundg (4 - (k + 1))
      case measure => omega
      case rel => exact ⟨k + 1, by omega, rfl, by rw [ST.out]; go_num, by go_num, rfl⟩
    · have hkn : k = 4 := by omega
      subst hkn
      go_wp2
      go_ret
      exact ⟨rfl, rfl⟩

theorem side_calls (n : Nat) (W : World) : Calls Tryz.prog 85 #[.int .i64 n] W fun e w' => e = .returned (.int .i64 (sdK n : Nat)) ∧ W = w' := by
  unfold sdK
  by_cases h0 : n = 0
  · subst h0
    rw [if_pos rfl]
    go_enter Tryz.func85, Tryz.ntmps85
    go_wp2
    go_ret
    exact ⟨rfl, rfl⟩
  · rw [if_neg h0]
    have d0 : ((n : Int) == 0) = false := by rw [beq_eq_false_iff_ne]; omega
    have d0' : ¬ (n : Int) = 0 := by omega
    by_cases h1 : 16384 < n
    · rw [if_pos h1]
      have d1 : decide ((16384 : Int) < (n : Int)) = true := decide_eq_true (by omega)
      clear h0
      go_enter Tryz.func85, Tryz.ntmps85
      go_wp2
      go_ret
      exact ⟨rfl, rfl⟩
    · rw [if_neg h1]
      have d1 : decide ((16384 : Int) < (n : Int)) = false := decide_eq_false (by omega)
      clear h0
      go_enter Tryz.func85, Tryz.ntmps85
      go_wp2
      go_ret
      exact ⟨rfl, rfl⟩

theorem ex_ex (b : ByteArray) (m a : Nat) (h : m + a + 4 ≤ b.size) : beV (b.extract m b.size) a = beV b (m + a) := by
  unfold beV
  rw [ByteArray.extract_extract]
  congr 2
  all_goals omega

set_option maxRecDepth 100000 in
set_option maxHeartbeats 400000 in
theorem sides_calls (b sg : ByteArray) (h : sg.size + 8 ≤ b.size) (W : World) :
    Calls Tryz.prog 65 #[.string b, .string sg] W fun e w' => e = .returned (.tuple #[.int .i64 (beV b sg.size : Nat), .int .i64 (beV b (sg.size + 4) : Nat)]) ∧ W.grownBy w' none := by
  have hz : (b.extract sg.size b.size).size = b.size - sg.size := by rw [ByteArray.size_extract]; omega
  have hz4 : 4 ≤ (b.extract sg.size b.size).size := by omega
  have hz8 : 4 ≤ ((b.extract sg.size b.size).extract 4 (b.extract sg.size b.size).size).size := by rw [ByteArray.size_extract]; omega
  have l1 : sg.size ≤ b.size := by omega
  have K1 := fun u => number_calls (b.extract sg.size b.size) hz4 u
  have K2 := fun u => number_calls ((b.extract sg.size b.size).extract 4 (b.extract sg.size b.size).size) hz8 u
  have e1 : beV (b.extract sg.size b.size) 0 = beV b sg.size := ex_ex b sg.size 0 (by omega)
  have e2 : beV ((b.extract sg.size b.size).extract 4 (b.extract sg.size b.size).size) 0 = beV b (sg.size + 4) :=
    (ex_ex (b.extract sg.size b.size) 4 0 (by omega)).trans (ex_ex b sg.size 4 (by omega))
  rw [e1] at K1
  rw [e2] at K2
  obtain ⟨w, hw⟩ : ∃ w, beV b sg.size = w := ⟨_, rfl⟩
  obtain ⟨g, hg⟩ : ∃ w, beV b (sg.size + 4) = w := ⟨_, rfl⟩
  rw [hw] at K1 ⊢
  rw [hg] at K2 ⊢
  have K1 := Lib.hid K1
  have K2 := Lib.hid K2
  clear hw hg e1 e2 hz hz8
  go_enter Tryz.func65, Tryz.ntmps65
  go_wp2_with fail
  generalize b.extract sg.size b.size = b1 at K1 K2 hz4 ⊢
  go_quiet ((first
    | (go_at_call 86; with_reducible exact Calls.quiet_of_same ((K1.out _).mono (fun _ _ h => ⟨h.1, h.2.symm⟩)))
    | (go_at_call 86; with_reducible exact Calls.quiet_of_same ((K2.out _).mono (fun _ _ h => ⟨h.1, h.2.symm⟩)))))
  go_wp2
  go_ret2
  exact ⟨rfl, gb_drewN _ _ _⟩

end Go.Proofs.YtmhghkgcfgacdaaGreat.Sh

/- What heads of two formats have in common: what is wrong with one. -/
namespace Go.Proofs.YtmhghkgcfgacdaaGreat.Sh
open Go.ChangeShapes Go.WideShapes Go.ChangeAt Go.RowKit
open Go.Proofs.YtmhghkgcfgacdaaGreat.Le Go.Proofs.YtmhghkgcfgacdaaGreat.Tk Go.Proofs.YtmhghkgcfgacdaaGreat.Sr
set_option linter.unusedVariables false

set_option maxRecDepth 100000 in
set_option maxHeartbeats 400000 in
theorem wrong_calls (b sg : ByteArray) (K : Nat) (M : MK sg b K) (h : sg.size + 8 ≤ b.size) (hb : b.size ≤ 1000) (W : World) :
    Calls Tryz.prog 64 #[.string b, .string sg] W fun e w' => e = .returned (.tuple #[.int .i64 (kdS sg.size K (beV b sg.size) (beV b (sg.size + 4)) : Nat), .int .i64 (plS sg.size K (beV b sg.size) (beV b (sg.size + 4)) : Nat)]) ∧ W.grownBy w' none := by
  have KS := fun u => sides_calls b sg h u
  unfold kdS plS
  obtain ⟨w, hw⟩ : ∃ w, beV b sg.size = w := ⟨_, rfl⟩
  obtain ⟨g, hg⟩ : ∃ w, beV b (sg.size + 4) = w := ⟨_, rfl⟩
  rw [hw, hg] at KS
  rw [hw, hg]
  obtain ⟨m, hm⟩ : ∃ m, sg.size = m := ⟨_, rfl⟩
  have HM := Lib.hid M
  have HMM := Lib.hid hm
  have HS := Lib.hid h
  have HB := Lib.hid hb
  have KS := Lib.hid KS
  have K1 := fun u => side_calls w u
  have K2 := fun u => side_calls g u
  obtain ⟨sw, hsw⟩ : ∃ s, sdK w = s := ⟨_, rfl⟩
  obtain ⟨sh, hsh⟩ : ∃ s, sdK g = s := ⟨_, rfl⟩
  rw [hsw] at K1 ⊢
  rw [hsh] at K2 ⊢
  rw [hm]
  obtain ⟨kd, hkd⟩ : ∃ n : Nat, (if K < m then 2 else if sw ≠ 0 then sw else sh) = n := ⟨_, rfl⟩
  obtain ⟨pl, hpl⟩ : ∃ n : Nat, (if K < m then K else if sw ≠ 0 then m else if sh ≠ 0 then m + 4 else 0) = n := ⟨_, rfl⟩
  rw [hkd, hpl]
  have HKD := Lib.hid hkd
  have HPL := Lib.hid hpl
  have hmb : m ≤ 1000 := by omega
  have K1 := Lib.hid K1
  have K2 := Lib.hid K2
  have HLE := Lib.hid (show K ≤ m from hm ▸ M.le)
  clear hw hg hm M h hb hsw hsh hkd hpl
  have q1 := HMM.out
  go_enter Tryz.func64, Tryz.ntmps64
  go_wp2_with fail
  go_loopg [11] (m + 1) (fun q iv wr => ∃ k : Nat, k ≤ K ∧ q = m + 1 - k ∧ iv = .int .i64 k ∧ W.grownBy wr none)
  case atStart => exact ⟨0, by omega, rfl, rfl, gb_refl _ _⟩
  case round =>
    obtain ⟨k, hk, rfl, rfl, G⟩ := hrel
    have HG := Lib.hid G
    clear G
    by_cases hlt : k < m
    · have hks : k < sg.size := by omega
      have hkb : k < b.size := by have := HS.out; omega
      have hcb := bt_at b k hkb
      have hcs := bt_at sg k hks
      have d1 : decide ((k : Int) < (m : Int)) = true := decide_eq_true (by omega)
      by_cases hkK : k < K
      · have he := HM.out.yes k hkK
        rw [he] at hcb
        obtain ⟨c, hc⟩ : ∃ c, bt sg k = c := ⟨_, rfl⟩
        rw [hc] at hcb hcs
        clear hc he q1
        go_wp2_with fail
        go_quiet (fail)
        go_wp2
        go_roundg (m + 1 - (k + 1))
        case measure => omega
        case rel => exact ⟨k + 1, by omega, rfl, by go_num, gb_trans HG.out (gb_drewN _ _ _)⟩
      · obtain rfl : k = K := by omega
        have he := HM.out.no hks
        obtain ⟨c, hc⟩ : ∃ c, bt b k = c := ⟨_, rfl⟩
        obtain ⟨d, hd⟩ : ∃ c, bt sg k = c := ⟨_, rfl⟩
        rw [hc, hd] at he
        rw [hc] at hcb
        rw [hd] at hcs
        have d2 : ((c : Int) != (d : Int)) = true := by rw [bne_iff_ne]; omega
        have d2' : ¬ (c : Int) = (d : Int) := by omega
        have e1 : kd = 2 := by rw [← HKD.out, if_pos hlt]
        have e2 : pl = k := by rw [← HPL.out, if_pos hlt]
        have E := Lib.hid (And.intro e1 e2)
        clear hc hd he q1 hk e1 e2
        go_wp2_with fail
        go_quiet (fail)
        go_wp2
        go_ret2
        exact ⟨by rw [E.out.1, E.out.2]; rfl, gb_trans HG.out (gb_drewN _ _ _)⟩
    · have d1 : decide ((k : Int) < (m : Int)) = false := decide_eq_false (by omega)
      have hKm : ¬ K < m := by have := HLE.out; omega
      have e1 := HKD.out
      have e2 := HPL.out
      rw [if_neg hKm] at e1 e2
      have E := Lib.hid (And.intro e1 e2)
      clear hKm hk e1 e2
      go_wp2_with fail
      refine (KS.out _).mono ?_
      rintro e w2 ⟨rfl, G2⟩
      have HG2 := Lib.hid (gb_trans HG.out G2)
      clear G2 HG
      go_wp2_with fail
      refine (K1.out _).mono ?_
      rintro e w' ⟨rfl, rfl⟩
      by_cases hw0 : sw = 0
      · subst hw0
        go_wp2_with fail
        refine (K2.out _).mono ?_
        rintro e w' ⟨rfl, rfl⟩
        by_cases hh0 : sh = 0
        · subst hh0
          go_wp2
          go_ret2
          exact ⟨by rw [← E.out.1, ← E.out.2]; rfl, HG2.out⟩
        · have d3 : ((sh : Int) != 0) = true := by rw [bne_iff_ne]; omega
          have d3' : ¬ (sh : Int) = 0 := by omega
          have E2 := Lib.hid hh0
          clear hh0
          go_wp2
          go_ret2
          exact ⟨by rw [← E.out.1, ← E.out.2, if_neg (by decide), if_neg (by decide), if_pos E2.out]; simp, HG2.out⟩
      · have d3 : ((sw : Int) != 0) = true := by rw [bne_iff_ne]; omega
        have d3' : ¬ (sw : Int) = 0 := by omega
        have E2 := Lib.hid hw0
        clear hw0
        go_wp2
        go_ret2
        exact ⟨by rw [← E.out.1, ← E.out.2, if_pos E2.out, if_pos E2.out]; rfl, HG2.out⟩

end Go.Proofs.YtmhghkgcfgacdaaGreat.Sh

/- What heads of two formats have in common: Read, by any ledger. -/
namespace Go.Proofs.YtmhghkgcfgacdaaGreat.Sh
open Go.ChangeShapes Go.WideShapes Go.ChangeAt Go.RowKit
open Go.Proofs.YtmhghkgcfgacdaaGreat.Le Go.Proofs.YtmhghkgcfgacdaaGreat.Tk Go.Proofs.YtmhghkgcfgacdaaGreat.Sr
set_option linter.unusedVariables false

/-- The budget is the same. -/
structure Lm (x y : St) : Prop where
  w : y.w = x.w
  h : y.h = x.h
  b : y.b = x.b
  s : y.s = x.s
theorem Lm.refl (x : St) : Lm x x := ⟨rfl, rfl, rfl, rfl⟩
theorem Lm.trans {x y z : St} (h : Lm x y) (k : Lm y z) : Lm x z := ⟨k.w.trans h.w, k.h.trans h.h, k.b.trans h.b, k.s.trans h.s⟩
theorem lm_stp (x : St) (n : Nat) : Lm x (stp x n) := ⟨rfl, rfl, rfl, rfl⟩
theorem lm_spent (x : St) : Lm x (spent x) := ⟨rfl, rfl, rfl, rfl⟩
theorem stp_ok {x : St} (ok : x.Ok) (hr : x.r = 0) (hw : x.st + 1 ≤ x.s) : (stp x 1).Ok := by
  have h := ok.work 1
  rwa [work_one hr hw] at h
theorem spent_ok {x : St} (ok : x.Ok) (hr : x.r = 0) (hw : x.s < x.st + 1) : (spent x).Ok := by
  have h := ok.work 1
  rwa [work_none ok hr hw] at h

theorem rd_own {c l : Nat} {s : ByteArray} {p : Nat} {x : St} {w w' : World} {S : List Nat} (h : Rd c l s p x w) (t : Tn w w' S) (hc : c ∉ S) (hl : l ∉ S) : Rd c l s p x w' := ⟨h.so.turned t hc, h.led.turned t hl, h.ok⟩

section
variable {c l : Nat} {s : ByteArray} {p : Nat} {x : St} {w : World}
theorem take_y (h : Rd c l s p x w) (hr : x.r = 0) (hst : x.st + 1 ≤ x.s) (n : Nat) (hq : p + n ≤ s.size) :
    Calls Tryz.prog 62 #[.pointer (some ⟨c, 0, none⟩), .int .i64 (n : Nat)] w fun e w' => e = .returned (.tuple #[.string (s.extract p (p + n)), .bool true]) ∧ Rd c l s (p + n) (stp x 1) w' ∧ Tn w w' [c, l] := by
  have e := work_one hr hst
  have K := take_yes c l s p 0 s.size n x w h.so h.led h.ok (by unfold rdB canB; rw [e]; simp only [Bool.true_and, Bool.and_eq_true, decide_eq_true_eq]; omega)
  rw [e] at K
  exact K.mono (fun e w' ⟨h1, h2, h3⟩ => ⟨h1, ⟨h2.1, h2.2, stp_ok h.ok hr hst⟩, h3⟩)
theorem take_s (h : Rd c l s p x w) (hr : x.r = 0) (hst : x.st + 1 ≤ x.s) (n : Nat) (hq : s.size < p + n) :
    Calls Tryz.prog 62 #[.pointer (some ⟨c, 0, none⟩), .int .i64 (n : Nat)] w fun e w' => e = .returned (.tuple #[.string ⟨#[]⟩, .bool false]) ∧ Rd c l s p (stp x 1) w' ∧ Tn w w' [c, l] := by
  have e := work_one hr hst
  have K := take_no c l s p 0 s.size x (n : Int) w h.so h.led h.ok (by unfold rdB canB; rw [e]; simp only [Bool.true_and, Bool.and_eq_false_iff, decide_eq_false_iff_not]; omega)
  rw [e] at K
  exact K.mono (fun e w' ⟨h1, h2, h3⟩ => ⟨h1, ⟨h2.1, h2.2, stp_ok h.ok hr hst⟩, Tn.gb h3 (by simp)⟩)
theorem take_o (h : Rd c l s p x w) (hr : x.r = 0) (hst : x.s < x.st + 1) (n : Nat) :
    Calls Tryz.prog 62 #[.pointer (some ⟨c, 0, none⟩), .int .i64 (n : Nat)] w fun e w' => e = .returned (.tuple #[.string ⟨#[]⟩, .bool false]) ∧ Rd c l s p (spent x) w' ∧ Tn w w' [c, l] := by
  have e := work_none h.ok hr hst
  have K := take_no c l s p 0 s.size x (n : Int) w h.so h.led h.ok (by unfold rdB; rw [e]; rfl)
  rw [e] at K
  exact K.mono (fun e w' ⟨h1, h2, h3⟩ => ⟨h1, ⟨h2.1, h2.2, spent_ok h.ok hr hst⟩, Tn.gb h3 (by simp)⟩)
end
/-- A reading fails: at the text's end, or for want of a step; it is the one whose fault is k at j. -/
def NoR (c l : Nat) (s : ByteArray) (p n : Nat) (x : St) (y : St) (k j : Int) : Prop :=
  (s.size < p + n ∧ x.st + 1 ≤ x.s ∧ y = stp x 1 ∧ k = 1 ∧ j = s.size) ∨ (x.s < x.st + 1 ∧ y = spent x ∧ k = 4 ∧ j = p)
theorem nor_lm {c l : Nat} {s : ByteArray} {p n : Nat} {x y : St} {k j : Int} (h : NoR c l s p n x y k j) : Lm x y := by
  obtain ⟨_, _, rfl, _⟩ | ⟨_, rfl, _⟩ := h
  · exact lm_stp x 1
  · exact lm_spent x
/-- A reading that fails, with the fault that is told of it. -/
theorem take_n {c l : Nat} {s : ByteArray} {p : Nat} {x : St} {w : World} (h : Rd c l s p x w) (hr : x.r = 0) (n : Nat) (hn : s.size < p + n ∨ x.s < x.st + 1) :
    ∃ y k j, NoR c l s p n x y k j ∧ Calls Tryz.prog 62 #[.pointer (some ⟨c, 0, none⟩), .int .i64 (n : Nat)] w (fun e w' => e = .returned (.tuple #[.string ⟨#[]⟩, .bool false]) ∧ Rd c l s p y w' ∧ Tn w w' [c, l]) ∧
      (∀ (f : Int) (u : World), Rd c l s p y u → Calls Tryz.prog 63 #[.pointer (some ⟨c, 0, none⟩), .int .i64 f] u fun e w' => e = .returned (.agg #[.int .i64 k, .int .i64 f, .int .i64 j]) ∧ Rd c l s p y w' ∧ u.grownBy w' none) := by
  by_cases hst : x.st + 1 ≤ x.s
  · have hq : s.size < p + n := by omega
    exact ⟨stp x 1, 1, s.size, .inl ⟨hq, hst, rfl, rfl, rfl⟩, take_s h hr hst n hq, fun f u R => fault_end c l s p (stp x 1) f u R hr⟩
  · exact ⟨spent x, 4, p, .inr ⟨by omega, rfl, rfl, rfl⟩, take_o h hr (by omega) n, fun f u R => fault_spent c l s p x f u R⟩

/-- What comes of a head that is not read: the fault k at j. -/
def HNo (W : World) (c l : Nat) (s : ByteArray) (x : St) (F : Int) (k j : Int) (q : Nat) (y : St) (e : Ending) (w' : World) : Prop :=
  e = .returned (.tuple #[.int .i64 0, .int .i64 0, .string ⟨#[]⟩, .agg #[.int .i64 k, .int .i64 F, .int .i64 j]]) ∧ Rd c l s q y w' ∧ Tn W w' [c, l]

set_option maxRecDepth 100000 in
set_option maxHeartbeats 1000000 in
theorem read_no (c l : Nat) (s sg : ByteArray) (n : Nat) (F : Int) (x : St) (W : World) (R : Rd c l s 0 x W) (hr : x.r = 0) (hn : s.size < 0 + n ∨ x.s < x.st + 1) :
    ∃ y k j, NoR c l s 0 n x y k j ∧ Calls Tryz.prog 43 #[.pointer (some ⟨c, 0, none⟩), .string sg, .int .i64 (n : Nat), .int .i64 F] W (HNo W c l s x F k j 0 y) := by
  have R0 := R.grown (World.grownBy_alloc W (.cells #[.int .i64 0, .int .i64 0, .int .i64 0] 29) none)
  obtain ⟨y, k, j, hno, KT, KF⟩ := take_n R0 hr n hn
  refine ⟨y, k, j, hno, ?_⟩
  have hc := R.clt
  have hl := R.llt
  have F0 := Fl.new W
  have T0 : Tn W (W.alloc (.cells #[.int .i64 0, .int .i64 0, .int .i64 0] 29)) [c, l] := Tn.gb (World.grownBy_alloc W (.cells #[.int .i64 0, .int .i64 0, .int .i64 0] 29) none) (by simp)
  have KA := Lib.hid (at_rd c l s 0 x _ R0)
  have HF0 := Lib.hid F0
  have HT0 := Lib.hid T0
  have KT := Lib.hid KT
  have KF := Lib.hid KF
  clear hno R hr hn R0 F0 T0
  go_enter Tryz.func43, Tryz.ntmps43
  go_wp2_with fail
  generalize W.alloc (.cells #[.int .i64 0, .int .i64 0, .int .i64 0] 29) = w0 at KA KT HF0 HT0 ⊢
  refine KA.out.mono ?_
  rintro e w' ⟨rfl, rfl⟩
  go_wp2_with fail
  refine KT.out.mono ?_
  rintro e w1 ⟨rfl, R1, T1⟩
  have HF1 := Lib.hid (HF0.out.turned T1 (by simp; omega))
  have HT1 := Lib.hid (HT0.out.trans T1)
  have HKF := Lib.hid (KF.out F w1 R1)
  clear R1 T1 HF0 HT0 KT KA KF
  go_wp2_with fail
  refine HKF.out.mono ?_
  rintro e w2 ⟨rfl, R2, G2⟩
  have F2 := HF1.out.turned (Tn.gb G2 (S := [c, l]) (by simp)) (by simp; omega)
  have HT2 := Lib.hid (HT1.out.trans (Tn.gb G2 (by simp)))
  have q0 := F2.c0
  have q1 := F2.c1
  have q2 := F2.c2
  have qf0 := F2.free 0
  have qf1 := F2.free 1
  have qf2 := F2.free 2
  have HR2 := Lib.hid R2
  clear R2 G2 HF1 HT1 HKF F2
  go_wp2
  refine bodyPost_ret (v := .tuple #[.int .i64 0, .int .i64 0, .string ⟨#[]⟩, .agg #[.int .i64 k, .int .i64 F, .int .i64 j]]) (by simp only [results, Tryz.results43]; go_simp) rfl ?_
  have t6 : Tn w2 (((w2.setCell ⟨W.heap.size, 0, none⟩ (.int .i64 k)).setCell ⟨W.heap.size, 1, none⟩ (.int .i64 F)).setCell ⟨W.heap.size, 2, none⟩ (.int .i64 j)) [W.heap.size] := (((Tn.refl w2 [W.heap.size]).st (by simp)).st (by simp)).st (by simp)
  exact ⟨rfl, rd_own HR2.out t6 (by simp; omega) (by simp; omega), HT2.out.over t6 (by intro i hi; simp at hi; left; omega)⟩

end Go.Proofs.YtmhghkgcfgacdaaGreat.Sh

/- What heads of two formats have in common: Read behind a step that is let. -/
namespace Go.Proofs.YtmhghkgcfgacdaaGreat.Sh
open Go.ChangeShapes Go.WideShapes Go.ChangeAt Go.RowKit
open Go.Proofs.YtmhghkgcfgacdaaGreat.Le Go.Proofs.YtmhghkgcfgacdaaGreat.Tk Go.Proofs.YtmhghkgcfgacdaaGreat.Sr
set_option linter.unusedVariables false

theorem bt_ext (s : ByteArray) (n i : Nat) (hi : i < n) : bt (s.extract 0 n) i = bt s i := by
  unfold bt
  rw [Lib.extract_data, List.getD_eq_getElem?_getD, List.getD_eq_getElem?_getD, List.getElem?_take_of_lt (by omega), List.getElem?_drop, Nat.zero_add]
theorem be_ext (s : ByteArray) (n a : Nat) (h : n ≤ s.size) (hi : a + 4 ≤ n) : beV (s.extract 0 n) a = beV s a := by
  unfold beV
  rw [ByteArray.extract_extract]
  congr 2
  all_goals omega
theorem mk_ext (sg s : ByteArray) (n K : Nat) (h : sg.size ≤ n) (M : MK sg s K) : MK sg (s.extract 0 n) K :=
  ⟨M.le, fun j hj => by rw [bt_ext s n j (by have := M.le; omega)]; exact M.yes j hj, fun hk => by rw [bt_ext s n K (by omega)]; exact M.no hk⟩
theorem plS_le (m K w h : Nat) : plS m K w h ≤ m + 4 := by
  unfold plS
  split
  · omega
  · split
    · omega
    · split <;> omega

set_option maxRecDepth 100000 in
set_option maxHeartbeats 1000000 in
theorem read_bad (c l : Nat) (s sg : ByteArray) (n K kd pl : Nat) (F : Int) (x : St) (W : World) (R : Rd c l s 0 x W) (hr : x.r = 0) (hst : x.st + 1 ≤ x.s) (hn : n ≤ s.size) (hm : sg.size + 8 ≤ n) (h100 : n ≤ 100) (M : MK sg s K)
    (hkd : kdS sg.size K (beV s sg.size) (beV s (sg.size + 4)) = kd) (hpl : plS sg.size K (beV s sg.size) (beV s (sg.size + 4)) = pl) (hne : kd ≠ 0) :
    Calls Tryz.prog 43 #[.pointer (some ⟨c, 0, none⟩), .string sg, .int .i64 (n : Nat), .int .i64 F] W (HNo W c l s x F kd pl n (stp x 1)) := by
  have R0 := R.grown (World.grownBy_alloc W (.cells #[.int .i64 0, .int .i64 0, .int .i64 0] 29) none)
  have KT := take_y R0 hr hst n (by omega)
  rw [Nat.zero_add] at KT
  have hz : (s.extract 0 n).size = n := by rw [ByteArray.size_extract]; omega
  have KW := fun u => wrong_calls (s.extract 0 n) sg K (mk_ext sg s n K (by omega) M) (by omega) (by omega) u
  rw [be_ext s n _ hn (by omega), be_ext s n _ hn (by omega), hkd, hpl] at KW
  have hp : pl ≤ 1000 := by rw [← hpl]; have := plS_le sg.size K (beV s sg.size) (beV s (sg.size + 4)); omega
  have d0 : ((kd : Int) != 0) = true := by rw [bne_iff_ne]; omega
  have d0' : ¬ (kd : Int) = 0 := by omega
  obtain ⟨z, hzz⟩ : ∃ z, s.extract 0 n = z := ⟨_, rfl⟩
  rw [hzz] at KT KW
  have hc := R.clt
  have hl := R.llt
  have KA := Lib.hid (at_rd c l s 0 x _ R0)
  have HF0 := Lib.hid (Fl.new W)
  have HT0 := Lib.hid (show Tn W (W.alloc (.cells #[.int .i64 0, .int .i64 0, .int .i64 0] 29)) [c, l] from Tn.gb (World.grownBy_alloc W (.cells #[.int .i64 0, .int .i64 0, .int .i64 0] 29) none) (by simp))
  have KT := Lib.hid KT
  have KW := Lib.hid KW
  clear R hr hn R0 hkd hpl hne hst hm h100 M hz hzz
  go_enter Tryz.func43, Tryz.ntmps43
  go_wp2_with fail
  generalize W.alloc (.cells #[.int .i64 0, .int .i64 0, .int .i64 0] 29) = w0 at KA KT HF0 HT0 ⊢
  refine KA.out.mono ?_
  rintro e w' ⟨rfl, rfl⟩
  go_wp2_with fail
  refine KT.out.mono ?_
  rintro e w1 ⟨rfl, R1, T1⟩
  have HF1 := Lib.hid (HF0.out.turned T1 (by simp; omega))
  have HT1 := Lib.hid (HT0.out.trans T1)
  have HR1 := Lib.hid R1
  clear R1 T1 HF0 HT0 KT KA
  go_wp2_with fail
  refine (KW.out _).mono ?_
  rintro e w2 ⟨rfl, G2⟩
  have F2 := HF1.out.turned (Tn.gb G2 (S := [c, l]) (by simp)) (by simp; omega)
  have HT2 := Lib.hid (HT1.out.trans (Tn.gb G2 (by simp)))
  have q0 := F2.c0
  have q1 := F2.c1
  have q2 := F2.c2
  have qf0 := F2.free 0
  have qf1 := F2.free 1
  have qf2 := F2.free 2
  have HR2 := Lib.hid (HR1.out.grown G2)
  clear G2 HF1 HT1 HR1 F2
  go_wp2
  refine bodyPost_ret (v := .tuple #[.int .i64 0, .int .i64 0, .string ⟨#[]⟩, .agg #[.int .i64 kd, .int .i64 F, .int .i64 pl]]) (by simp only [results, Tryz.results43]; go_simp) rfl ?_
  have t6 : Tn w2 (((w2.setCell ⟨W.heap.size, 0, none⟩ (.int .i64 kd)).setCell ⟨W.heap.size, 1, none⟩ (.int .i64 F)).setCell ⟨W.heap.size, 2, none⟩ (.int .i64 pl)) [W.heap.size] := (((Tn.refl w2 [W.heap.size]).st (by simp)).st (by simp)).st (by simp)
  exact ⟨rfl, rd_own HR2.out t6 (by simp; omega) (by simp; omega), HT2.out.over t6 (by intro i hi; simp at hi; left; omega)⟩

set_option maxRecDepth 100000 in
set_option maxHeartbeats 1000000 in
theorem read_ok (c l : Nat) (s sg : ByteArray) (n K gw gh : Nat) (F : Int) (x : St) (W : World) (R : Rd c l s 0 x W) (hr : x.r = 0) (hst : x.st + 1 ≤ x.s) (hn : n ≤ s.size) (hm : sg.size + 8 ≤ n) (h100 : n ≤ 100) (M : MK sg s K)
    (hw : beV s sg.size = gw) (hh : beV s (sg.size + 4) = gh) (hne : kdS sg.size K gw gh = 0) :
    Calls Tryz.prog 43 #[.pointer (some ⟨c, 0, none⟩), .string sg, .int .i64 (n : Nat), .int .i64 F] W
      (fun e w' => e = .returned (.tuple #[.int .i64 gw, .int .i64 gh, .string (s.extract 0 n), .agg #[.int .i64 0, .int .i64 0, .int .i64 0]]) ∧ Rd c l s n (stp x 1) w' ∧ Tn W w' [c, l]) := by
  have R0 := R.grown (World.grownBy_alloc W (.cells #[.int .i64 0, .int .i64 0, .int .i64 0] 29) none)
  have KT := take_y R0 hr hst n (by omega)
  rw [Nat.zero_add] at KT
  have hz : (s.extract 0 n).size = n := by rw [ByteArray.size_extract]; omega
  have KW := fun u => wrong_calls (s.extract 0 n) sg K (mk_ext sg s n K (by omega) M) (by omega) (by omega) u
  have KS := fun u => sides_calls (s.extract 0 n) sg (by omega) u
  rw [be_ext s n _ hn (by omega), be_ext s n _ hn (by omega), hw, hh] at KS
  rw [be_ext s n _ hn (by omega), be_ext s n _ hn (by omega), hw, hh, hne] at KW
  obtain ⟨pl, hpl⟩ : ∃ z, plS sg.size K gw gh = z := ⟨_, rfl⟩
  rw [hpl] at KW
  obtain ⟨z, hzz⟩ : ∃ z, s.extract 0 n = z := ⟨_, rfl⟩
  rw [hzz] at KT KW KS ⊢
  have hc := R.clt
  have hl := R.llt
  have KA := Lib.hid (at_rd c l s 0 x _ R0)
  have HF0 := Lib.hid (Fl.new W)
  have HT0 := Lib.hid (show Tn W (W.alloc (.cells #[.int .i64 0, .int .i64 0, .int .i64 0] 29)) [c, l] from Tn.gb (World.grownBy_alloc W (.cells #[.int .i64 0, .int .i64 0, .int .i64 0] 29) none) (by simp))
  have KT := Lib.hid KT
  have KW := Lib.hid KW
  have KS := Lib.hid KS
  clear R hr hn R0 hw hh hpl hne hst hm h100 M hz hzz
  go_enter Tryz.func43, Tryz.ntmps43
  go_wp2_with fail
  generalize W.alloc (.cells #[.int .i64 0, .int .i64 0, .int .i64 0] 29) = w0 at KA KT HF0 HT0 ⊢
  refine KA.out.mono ?_
  rintro e w' ⟨rfl, rfl⟩
  go_wp2_with fail
  refine KT.out.mono ?_
  rintro e w1 ⟨rfl, R1, T1⟩
  have HF1 := Lib.hid (HF0.out.turned T1 (by simp; omega))
  have HT1 := Lib.hid (HT0.out.trans T1)
  have HR1 := Lib.hid R1
  clear R1 T1 HF0 HT0 KT KA
  go_wp2_with fail
  refine (KW.out _).mono ?_
  rintro e w2 ⟨rfl, G2⟩
  have HG2 := Lib.hid G2
  clear G2
  go_wp2_with fail
  refine (KS.out _).mono ?_
  rintro e w3 ⟨rfl, G3⟩
  have G2 := gb_trans HG2.out G3
  have F2 := HF1.out.turned (Tn.gb G2 (S := [c, l]) (by simp)) (by simp; omega)
  have HT2 := Lib.hid (HT1.out.trans (Tn.gb G2 (by simp)))
  have q0 := F2.c0
  have q1 := F2.c1
  have q2 := F2.c2
  have qf0 := F2.free 0
  have qf1 := F2.free 1
  have qf2 := F2.free 2
  have HR2 := Lib.hid (HR1.out.grown G2)
  clear G2 G3 HG2 HF1 HT1 HR1 F2
  go_wp2
  refine bodyPost_ret (v := .tuple #[.int .i64 gw, .int .i64 gh, .string z, .agg #[.int .i64 0, .int .i64 0, .int .i64 0]]) (by simp only [results, Tryz.results43]; go_simp) rfl ?_
  have t6 : Tn w3 (((w3.setCell ⟨W.heap.size, 0, none⟩ (.int .i64 0)).setCell ⟨W.heap.size, 1, none⟩ (.int .i64 0)).setCell ⟨W.heap.size, 2, none⟩ (.int .i64 0)) [W.heap.size] := (((Tn.refl w3 [W.heap.size]).st (by simp)).st (by simp)).st (by simp)
  exact ⟨rfl, rd_own HR2.out t6 (by simp; omega) (by simp; omega), HT2.out.over t6 (by intro i hi; simp at hi; left; omega)⟩

end Go.Proofs.YtmhghkgcfgacdaaGreat.Sh
