/- Layer 30: the last full stop; small letters. -/
import Derived.Test.YtibbebglbcjnmaaDoorSn4
import Derived.Test.YtibbebglbcjnmaaDoorAm1
import Derived.Lib.ConvBytes
namespace Go.Proofs.YtibbebglbcjnmaaDoor.Sn
open Go.ChangeShapes Go.WideShapes Go.ChangeAt Go.RowKit
open Go.Proofs.YtibbebglbcjnmaaDoor.Le Go.Proofs.YtibbebglbcjnmaaDoor.Tk Go.Proofs.YtibbebglbcjnmaaDoor.Am
set_option linter.unusedVariables false

/-- The last full stop among the first k bytes; -1: there is none. -/
def ldot (s : ByteArray) : Nat → Int
  | 0 => -1
  | k + 1 => if bt s k = 46 then (k : Nat) else ldot s k
theorem ldot_bd (s : ByteArray) : ∀ k, -1 ≤ ldot s k ∧ ldot s k < k
  | 0 => by unfold ldot; omega
  | k + 1 => by
    have h := ldot_bd s k
    unfold ldot
    split <;> omega

set_option maxRecDepth 100000 in
theorem lix_calls (s : ByteArray) (hs : s.size ≤ 9223372036854775807) (W : World) : Calls Tryd.prog 38 #[.string s, .int .u8 46] W fun e w' => e = .returned (.int .i64 (ldot s s.size)) ∧ W = w' := by
  obtain ⟨D, hD⟩ : ∃ D, ldot s s.size = D := ⟨_, rfl⟩
  rw [hD]
  have HD := Lib.hid hD
  have HS := Lib.hid hs
  have hw : IntKind.i64.wrap ((s.size : Int) - 1) = (s.size : Int) - 1 := IntWalk.i64_in _ (by omega)
  clear hD hs
  go_enter Tryd.func38, Tryd.ntmps38
  go_wp2_with fail
  go_loopg [5] (s.size + 1) (fun q iv wr => ∃ k : Nat, k ≤ s.size ∧ q = k + 1 ∧ iv = .int .i64 ((k : Int) - 1) ∧ ldot s k = D ∧ wr = W)
  case atStart => exact ⟨s.size, Nat.le_refl _, rfl, rfl, HD.out, rfl⟩
  case round =>
    obtain ⟨k, hk, rfl, rfl, hd, rfl⟩ := hrel
    cases k with
    | zero =>
      have e1 : decide ((0 : Int) ≤ ((0 : Nat) : Int) - 1) = false := by decide
      obtain rfl : -1 = D := hd
      go_wp2
      go_ret
      exact ⟨rfl, rfl⟩
    | succ m =>
      have em : ((m + 1 : Nat) : Int) - 1 = (m : Int) := by omega
      rw [em]
      have e1 : decide ((0 : Int) ≤ (m : Int)) = true := decide_eq_true (by omega)
      have hms : m < s.size := by omega
      have c0 := bt_cell s m hms rfl
      obtain ⟨c, hc⟩ : ∃ c, bt s m = c := ⟨_, rfl⟩
      rw [hc] at c0
      have hSS := HS.out
      by_cases h46 : c = 46
      · have HE := Lib.hid (show D = m from by rw [← hd]; unfold ldot; rw [if_pos (by rw [hc]; exact h46)])
        subst h46
        clear hd hc
        go_wp2
        go_ret
        exact ⟨by rw [HE.out]; rfl, rfl⟩
      · have e2 : ((c : Int) == 46) = false := by rw [beq_eq_false_iff_ne]; omega
        have e2' : ¬ (c : Int) = 46 := by omega
        have HE := Lib.hid (show ldot s m = D from by rw [← hd]; conv => rhs; unfold ldot; rw [if_neg (by rw [hc]; exact h46)])
        clear hd hc h46
        go_wp2
        go_roundg (m + 1)
        case measure => omega
        case rel => exact ⟨m, by omega, rfl, by go_num, HE.out, rfl⟩
theorem lib_calls (s : ByteArray) (hs : s.size ≤ 9223372036854775807) (W : World) : Calls Tryd.prog 28 #[.string s, .int .u8 46] W fun e w' => e = .returned (.int .i64 (ldot s s.size)) ∧ W = w' := by
  have K := fun u => lix_calls s hs u
  obtain ⟨D, hD⟩ : ∃ D, ldot s s.size = D := ⟨_, rfl⟩
  rw [hD] at K ⊢
  have K := Lib.hid K
  clear hD
  go_enter Tryd.func28, Tryd.ntmps28
  go_wp2_with fail
  refine (K.out _).mono ?_
  rintro e w' ⟨rfl, rfl⟩
  go_wp2
  go_ret
  exact ⟨rfl, rfl⟩

/-- A small letter. -/
def lowB (c : Nat) : Nat := if 65 ≤ c ∧ c ≤ 90 then c + 32 else c
theorem lowB_lt {c : Nat} (h : c < 256) : lowB c < 256 := by unfold lowB; split <;> omega
/-- A text of which the first k bytes are small letters. -/
def lowK (s : ByteArray) (k : Nat) (j : Nat) : Nat := if j < k then lowB (bt s j) else bt s j
def lowT (s : ByteArray) : ByteArray := ⟨(s.data.toList.map fun b => UInt8.ofNat (lowB b.toNat)).toArray⟩

theorem gb_bytes (w : World) (e : TypeId) (s : ByteArray) (row : Option Nat) : w.grownBy (Lib.bytesWorld w e s) row :=
  ⟨rfl, rfl, rfl, by rw [Lib.bytesWorld_size]; omega, fun k hk _ => Lib.bytesWorld_at_old w e s k hk⟩
/-- A row of bytes of which the first k are small letters. -/
def LW (B : Nat) (s : ByteArray) (k : Nat) (w : World) : Prop := ∀ j, j < s.size → w.cell? ⟨B, j, none⟩ = some (.int .u8 (lowK s k j : Nat)) ∧ w.frozen? ⟨B, j, none⟩ = false
theorem lw_new (w : World) (s : ByteArray) : LW w.heap.size s 0 (Lib.bytesWorld w 5 s) := fun j hj => by
  refine ⟨(Lib.bytesWorld_cell w _ s j hj).trans (by unfold lowK; rw [if_neg (by omega)]; rfl), ?_⟩
  have h := Lib.bytesWorld_at_new w 5 s
  have hc : (Lib.bytesCells w 5 s).size = grownCap w s.size 0 5 := by
    have hge := grownCap_ge w s.size 0 5
    have : s.data.size = s.size := rfl
    simp [Lib.bytesCells, this]; try omega
  have hge := grownCap_ge w s.size 0 5
  simp only [World.frozen?, h]
  simp only [decide_eq_false_iff_not, Bool.and_eq_false_iff, decide_eq_false_iff_not]
  omega
theorem lw_put {B : Nat} {s : ByteArray} {k : Nat} {w : World} (h : LW B s k w) (hk : k < s.size) : LW B s (k + 1) (w.setCell ⟨B, k, none⟩ (.int .u8 (lowB (bt s k) : Nat))) := fun j hj => by
  refine ⟨?_, by rw [World.frozen?_setCell]; exact (h j hj).2⟩
  by_cases e : j = k
  · subst e
    rw [World.cell?_setCell_same' _ _ _ (by rw [(h j hj).1]; rfl)]
    unfold lowK
    rw [if_pos (by omega)]
  · have hne : (⟨B, k, none⟩ : Addr) ≠ ⟨B, j, none⟩ := fun hh => e (by cases hh; rfl)
    rw [World.cell?_setCell_other (h := hne), (h j hj).1]
    unfold lowK
    by_cases hjk : j < k
    · rw [if_pos hjk, if_pos (by omega)]
    · rw [if_neg hjk, if_neg (by omega)]
theorem lw_skip {B : Nat} {s : ByteArray} {k : Nat} {w : World} (h : LW B s k w) (he : lowB (bt s k) = bt s k) : LW B s (k + 1) w := fun j hj => by
  refine ⟨(h j hj).1.trans ?_, (h j hj).2⟩
  unfold lowK
  by_cases hjk : j < k
  · rw [if_pos hjk, if_pos (by omega)]
  · by_cases e : j = k
    · subst e
      rw [if_neg (by omega), if_pos (by omega), he]
    · rw [if_neg hjk, if_neg (by omega)]
theorem lowT_len (s : ByteArray) : (s.data.toList.map fun b => UInt8.ofNat (lowB b.toNat)).length = s.size := by simp

set_option maxRecDepth 100000 in
set_option maxHeartbeats 2000000 in
theorem small_calls (s : ByteArray) (hs : s.size ≤ 1000) (W : World) : Calls Tryd.prog 30 #[.string s] W fun e w' => e = .returned (.string (lowT s)) ∧ W.grownBy w' none := by
  have hcv : ∀ w, (convert 9 42 (.string s)).run Tryd.prog w = .ok (.slice (some ⟨w.heap.size, 0, none⟩) s.size (grownCap w s.size 0 5)) (Lib.bytesWorld w 5 s) := fun w => Lib.run_convert_string_bytes w _ _ _ s Tryd.underlying9 Tryd.underlying42 Tryd.underlying5
  have hcap : s.size ≤ grownCap W s.size 0 5 := grownCap_ge W s.size 0 5
  have hcap2 : grownCap W s.size 0 5 ≤ maxLen := grownCap_le_maxLen W s.size 0 _ (by unfold maxLen; omega)
  have HL := Lib.hid (lw_new W s)
  have HG := Lib.hid (gb_bytes W 5 s none)
  go_enter Tryd.func30, Tryd.ntmps30
  go_wp2_with fail
  generalize Lib.bytesWorld W 5 s = w0 at HL HG ⊢
  generalize grownCap W s.size 0 5 = cap at hcap hcap2 ⊢
  clear hcv
  go_loopg [10] (s.size + 1) (fun q iv wr => ∃ k : Nat, k ≤ s.size ∧ q = s.size + 1 - k ∧ iv = .int .i64 k ∧ LW W.heap.size s k wr ∧ W.grownBy wr none)
  case atStart => exact ⟨0, Nat.zero_le _, rfl, rfl, HL.out, HG.out⟩
  case round =>
    obtain ⟨k, hk, rfl, rfl, L, G⟩ := hrel
    have HL := Lib.hid L
    have HG := Lib.hid G
    clear L G
    by_cases hlt : k < s.size
    · have e1 : decide ((k : Int) < (s.size : Int)) = true := decide_eq_true (by omega)
      have hc := (HL.out k hlt).1
      have hf := (HL.out k hlt).2
      unfold lowK at hc
      rw [if_neg (by omega)] at hc
      have h256 := bt_lt s k
      obtain ⟨c, ec⟩ : ∃ c, bt s k = c := ⟨_, rfl⟩
      rw [ec] at hc h256
      by_cases hu : 65 ≤ c ∧ c ≤ 90
      · have e2 : decide ((65 : Int) ≤ (c : Int)) = true := decide_eq_true (by omega)
        have e3 : decide ((c : Int) ≤ 90) = true := decide_eq_true (by omega)
        have w1 : IntKind.u8.wrap ((c : Int) - 65) = (c : Int) - 65 := by simp [IntKind.wrap, IntKind.signed, IntKind.bits]; omega
        have w2 : IntKind.u8.wrap ((c : Int) - 65 + 97) = ((c + 32 : Nat) : Int) := by simp [IntKind.wrap, IntKind.signed, IntKind.bits]; omega
        have HN := Lib.hid (show LW W.heap.size s (k + 1) (wr.setCell ⟨W.heap.size, k, none⟩ (.int .u8 ((c + 32 : Nat) : Nat))) from by
          have h := lw_put HL.out hlt
          rw [ec] at h
          unfold lowB at h
          rw [if_pos hu] at h
          exact h)
        clear ec hu
        go_wp2
        go_roundg (s.size + 1 - (k + 1))
        case measure => omega
        case rel => exact ⟨k + 1, by omega, rfl, by go_num, HN.out, gb_own HG.out (Nat.le_refl _) (gb_set _ _ _ _)⟩
      · have HN := Lib.hid (show LW W.heap.size s (k + 1) wr from lw_skip HL.out (by unfold lowB; rw [ec, if_neg hu]))
        have e2 : (decide ((65 : Int) ≤ (c : Int)) = false) ∨ (decide ((65 : Int) ≤ (c : Int)) = true ∧ decide ((c : Int) ≤ 90) = false) := by
          by_cases h1 : 65 ≤ c
          · exact .inr ⟨decide_eq_true (by omega), decide_eq_false (by omega)⟩
          · exact .inl (decide_eq_false (by omega))
        clear ec hu
        rcases e2 with e2 | ⟨e2, e3⟩
        · go_wp2
          go_roundg (s.size + 1 - (k + 1))
          case measure => omega
          case rel => exact ⟨k + 1, by omega, rfl, by go_num, HN.out, HG.out⟩
        · go_wp2
          go_roundg (s.size + 1 - (k + 1))
          case measure => omega
          case rel => exact ⟨k + 1, by omega, rfl, by go_num, HN.out, HG.out⟩
    · obtain rfl : k = s.size := by omega
      have e1 : decide ((s.size : Int) < (s.size : Int)) = false := decide_eq_false (by omega)
      have hback := run_convert_bytes_back (P := Tryd.prog) wr 42 9 5 ⟨W.heap.size, 0, none⟩ cap (s.data.toList.map fun b => UInt8.ofNat (lowB b.toNat)) Tryd.underlying42 Tryd.underlying5 Tryd.underlying9 (fun j hj => by
        have hjs : j < s.size := by rw [lowT_len] at hj; exact hj
        have h := (HL.out j hjs).1
        unfold lowK at h
        rw [if_pos hjs] at h
        have hadd : (⟨W.heap.size, 0, none⟩ : Addr).add j = ⟨W.heap.size, j, none⟩ := by unfold Addr.add; split <;> simp_all
        rw [hadd, h]
        have hb : bt s j = (s.data.toList[j]'(by rw [← Lib.size_eq]; exact hjs)).toNat := by
          unfold bt
          rw [List.getD_eq_getElem?_getD, List.getElem?_eq_getElem (by rw [← Lib.size_eq]; exact hjs)]
          rfl
        have h256 := lowB_lt (bt_lt s j)
        rw [hb] at h256
        rw [hb, List.getElem_map, UInt8.toNat_ofNat']
        congr 2
        omega)
      rw [lowT_len] at hback
      have hb2 : (convert 42 9 (.slice (some ⟨W.heap.size, 0, none⟩) s.size cap)).run Tryd.prog wr = .ok (.string (lowT s)) wr := hback
      clear hback
      go_wp2
      go_ret
      exact ⟨rfl, HG.out⟩

end Go.Proofs.YtibbebglbcjnmaaDoor.Sn
