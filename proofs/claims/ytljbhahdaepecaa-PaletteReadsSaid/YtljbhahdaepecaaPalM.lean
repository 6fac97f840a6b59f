/- Layer 10: entries of a text, one behind the other; a palette's entries; Add, by its entries. -/
import Derived.Test.YtljbhahdaepecaaPalL
import Derived.Test.YtljbhahdaepecaaSrc3
namespace Go.Proofs.Ytljbhahdaepecaa.Pa
open Go.ChangeShapes Go.WideShapes Go.ChangeAt Go.RowKit
open Go.Proofs.Ytljbhahdaepecaa.Sc Go.Proofs.Ytljbhahdaepecaa.Le
set_option linter.unusedVariables false

theorem bt_bd (s : ByteArray) (j : Nat) : 0 ≤ bt s j ∧ bt s j ≤ 255 := by
  have := (s.data.toList.getD j 0).toNat_lt
  unfold bt
  omega
theorem bt_cut (s z : ByteArray) (o e k : Nat) (hz : s.extract o e = z) (h : k < z.size) (hk : o + k < e) : ((z[k]'h).toNat : Int) = bt s (o + k) := by
  have h1 := Go.Proofs.byte_at z k h
  have h3 : z.data.toList = (s.data.toList.drop o).take (e - o) := by rw [← hz, Lib.extract_data]
  rw [h3, List.getElem?_take_of_lt (by omega), List.getElem?_drop] at h1
  unfold bt
  rw [List.getD_eq_getElem?_getD, h1]
  rfl

/-- The entry of kind t + 2 at a place of a text, channel by channel. -/
def entAt (t : Nat) (s : ByteArray) (o j : Nat) : Int :=
  if t = 0 then (if j = 0 then near ((bt s o + 256 * bt s (o + 1)) / 1024 % 32) 31 else if j = 1 then near ((bt s o + 256 * bt s (o + 1)) / 32 % 32) 31 else if j = 2 then near ((bt s o + 256 * bt s (o + 1)) % 32) 31 else 255)
  else (if j = 0 then bt s (o + 2) else if j = 1 then bt s (o + 1) else if j = 2 then bt s o else if t = 3 then bt s (o + 3) else 255)
theorem entAt_bd (t : Nat) (s : ByteArray) (o j : Nat) : 0 ≤ entAt t s o j ∧ entAt t s o j ≤ 255 := by
  have nb : ∀ v : Int, 0 ≤ v → v ≤ 31 → 0 ≤ near v 31 ∧ near v 31 ≤ 255 := fun v h0 h1 => ⟨near_0 (by decide) h0, near_255 (by decide) h1⟩
  have b0 := bt_bd s o
  have b1 := bt_bd s (o + 1)
  unfold entAt
  split
  · split
    · exact nb _ (by omega) (by omega)
    · split
      · exact nb _ (by omega) (by omega)
      · split
        · exact nb _ (by omega) (by omega)
        · decide
  · split
    · exact bt_bd _ _
    · split
      · exact bt_bd _ _
      · split
        · exact bt_bd _ _
        · split
          · exact bt_bd _ _
          · decide

/-- Entries of a palette's bytes. -/
def EntOf (S : ByteArray) (n : Nat) (D : Nat → Nat → Int) : Prop := ∀ i, i < n → ∀ j, j < 4 → bt S (4 * i + j) = D i j

theorem bt_put (S z : ByteArray) (i a : Nat) (hz : z.size = 4) (hi : i + 4 ≤ S.size) : bt (Bu.putS S z i) a = if i ≤ a ∧ a < i + 4 then bt z (a - i) else bt S a := by
  have hS : S.data.toList.length = S.size := by rw [Lib.size_eq]
  have hzl : z.data.toList.length = 4 := by rw [← Lib.size_eq]; exact hz
  have ht : (S.data.toList.take i).length = i := by rw [List.length_take, hS]; omega
  unfold bt
  rw [Bu.putS_list, hz, List.getD_eq_getElem?_getD, List.getD_eq_getElem?_getD, List.getD_eq_getElem?_getD]
  by_cases h : i ≤ a ∧ a < i + 4
  · rw [if_pos h, List.getElem?_append_left (by rw [List.length_append, ht, hzl]; omega), List.getElem?_append_right (by rw [ht]; omega), ht]
  · rw [if_neg h]
    by_cases h1 : a < i
    · rw [List.append_assoc, List.getElem?_append_left (by rw [ht]; exact h1), List.getElem?_take_of_lt h1]
    · rw [List.getElem?_append_right (by rw [List.length_append, ht, hzl]; omega), List.length_append, ht, hzl, List.getElem?_drop, show i + 4 + (a - (i + 4)) = a from by omega]

theorem bt_four (p q r t : UInt8) : bt (four p q r t) 0 = p.toNat ∧ bt (four p q r t) 1 = q.toNat ∧ bt (four p q r t) 2 = r.toNat ∧ bt (four p q r t) 3 = t.toNat := ⟨rfl, rfl, rfl, rfl⟩

theorem ent_add {S : ByteArray} {n : Nat} {D : Nat → Nat → Int} {p q r t : UInt8} (h : EntOf S n D) (hi : 4 * n + 4 ≤ S.size) (h0 : D n 0 = p.toNat) (h1 : D n 1 = q.toNat) (h2 : D n 2 = r.toNat) (h3 : D n 3 = t.toNat) :
    EntOf (Bu.putS S (four p q r t) (4 * n)) (n + 1) D := by
  intro i hi' j hj
  rw [bt_put S (four p q r t) (4 * n) (4 * i + j) (four_size _ _ _ _) hi]
  by_cases hn : i = n
  · subst hn
    rw [if_pos (by omega), show 4 * i + j - 4 * i = j from by omega]
    obtain ⟨b0, b1, b2, b3⟩ := bt_four p q r t
    obtain rfl | rfl | rfl | rfl : j = 0 ∨ j = 1 ∨ j = 2 ∨ j = 3 := by omega
    · rw [b0, h0]
    · rw [b1, h1]
    · rw [b2, h2]
    · rw [b3, h3]
  · rw [if_neg (by omega)]
    exact h i (by omega) j hj

/-- Behind Add, where there is room. -/
def AddPost (p b l g n most : Nat) (D : Nat → Nat → Int) (W : World) (e : Ending) (w' : World) : Prop := e = .returned (.bool true) ∧ ∃ S, Po p b l g (n + 1) most S w' ∧ EntOf S (n + 1) D ∧ Tn W w' [p, g]

theorem u8_is (c : Int) (h0 : 0 ≤ c) (h1 : c ≤ 255) : ((UInt8.ofNat c.toNat).toNat : Int) = c := by
  rw [UInt8.toNat_ofNat']
  omega

theorem add_is (p b l g n most : Nat) (S : ByteArray) (D : Nat → Nat → Int) (c0 c1 c2 c3 : Int) (W : World) (h : Po p b l g n most S W) (hn : n < most) (hE : EntOf S n D)
    (a0 : 0 ≤ c0 ∧ c0 ≤ 255) (a1 : 0 ≤ c1 ∧ c1 ≤ 255) (a2 : 0 ≤ c2 ∧ c2 ≤ 255) (a3 : 0 ≤ c3 ∧ c3 ≤ 255) (h0 : D n 0 = c0) (h1 : D n 1 = c1) (h2 : D n 2 = c2) (h3 : D n 3 = c3) :
    Calls Try.prog 15 #[.pointer (some ⟨p, 0, none⟩), .agg #[.int .u8 c0, .int .u8 c1, .int .u8 c2, .int .u8 c3]] W (AddPost p b l g n most D W) := by
  have K := add_yes p b l g n most S (UInt8.ofNat c0.toNat) (UInt8.ofNat c1.toNat) (UInt8.ofNat c2.toNat) (UInt8.ofNat c3.toNat) W h hn
  have e0 := u8_is c0 a0.1 a0.2
  have e1 := u8_is c1 a1.1 a1.2
  have e2 := u8_is c2 a2.1 a2.2
  have e3 := u8_is c3 a3.1 a3.2
  have hi : 4 * n + 4 ≤ S.size := by have := h.size; omega
  have HE := ent_add (p := UInt8.ofNat c0.toNat) (q := UInt8.ofNat c1.toNat) (r := UInt8.ofNat c2.toNat) (t := UInt8.ofNat c3.toNat) hE hi (by rw [e0, h0]) (by rw [e1, h1]) (by rw [e2, h2]) (by rw [e3, h3])
  rw [e0, e1, e2, e3] at K
  exact K.mono (fun e w' ⟨he, hp, ht⟩ => ⟨he, _, hp, HE, ht⟩)

/-- The entry of a cut of a text, by the code's reading. -/
theorem packed_at (s z : ByteArray) (o : Nat) (W : World) (hz : s.extract o (o + 2) = z) (ho : o + 2 ≤ s.size) (hm : s.size ≤ 9223372036854775807) :
    Calls Try.prog 36 #[.string z] W fun e w' => e = .returned (.agg #[.int .u8 (entAt 0 s o 0), .int .u8 (entAt 0 s o 1), .int .u8 (entAt 0 s o 2), .int .u8 (entAt 0 s o 3)]) ∧ W.grownBy w' none := by
  have hzs : z.size = 2 := by rw [← hz, ByteArray.size_extract]; omega
  have K := packed_calls z _ _ W (by omega) (by omega) rfl rfl
  rw [bt_cut s z o (o + 2) 0 hz (by omega) (by omega), bt_cut s z o (o + 2) 1 hz (by omega) (by omega), Nat.add_zero] at K
  exact K
theorem opaque_at (t : Nat) (ht : t = 1 ∨ t = 2) (s z : ByteArray) (o n : Nat) (W : World) (hn : 3 ≤ n) (hz : s.extract o (o + n) = z) (ho : o + n ≤ s.size) (hm : s.size ≤ 9223372036854775807) :
    Calls Try.prog 37 #[.string z] W fun e w' => e = .returned (.agg #[.int .u8 (entAt t s o 0), .int .u8 (entAt t s o 1), .int .u8 (entAt t s o 2), .int .u8 (entAt t s o 3)]) ∧ W.grownBy w' none := by
  have hzs : z.size = n := by rw [← hz, ByteArray.size_extract]; omega
  have K := opaque_calls z (bt s o) (bt s (o + 1)) (bt s (o + 2)) W (by omega) (by omega) (bt_cut s z o (o + n) 0 hz (by omega) (by omega)) (bt_cut s z o (o + n) 1 hz (by omega) (by omega)) (bt_cut s z o (o + n) 2 hz (by omega) (by omega))
  rcases ht with rfl | rfl <;> exact K
theorem whole_at (s z : ByteArray) (o : Nat) (W : World) (hz : s.extract o (o + 4) = z) (ho : o + 4 ≤ s.size) (hm : s.size ≤ 9223372036854775807) :
    Calls Try.prog 38 #[.string z] W fun e w' => e = .returned (.agg #[.int .u8 (entAt 3 s o 0), .int .u8 (entAt 3 s o 1), .int .u8 (entAt 3 s o 2), .int .u8 (entAt 3 s o 3)]) ∧ W.grownBy w' none := by
  have hzs : z.size = 4 := by rw [← hz, ByteArray.size_extract]; omega
  exact whole_calls z (bt s o) (bt s (o + 1)) (bt s (o + 2)) (bt s (o + 3)) W (by omega) (by omega) (bt_cut s z o (o + 4) 0 hz (by omega) (by omega)) (bt_cut s z o (o + 4) 1 hz (by omega) (by omega)) (bt_cut s z o (o + 4) 2 hz (by omega) (by omega)) (bt_cut s z o (o + 4) 3 hz (by omega) (by omega))

/-- A ledger of m bytes, all kept, and of 1000 steps, k of them done. -/
def LB (m k : Int) : St := { w := 0, h := 0, b := 2000, s := 1000, by_ := m, pk := m, st := k, r := 0, a := 0 }
theorem LB_ok {m k : Int} (m0 : 0 ≤ m) (m1 : m ≤ 2000) (k0 : 0 ≤ k) (k1 : k ≤ 1000) : (LB m k).Ok :=
  ⟨by show (0 : Int) ≤ 0; decide, by show (0 : Int) ≤ _; decide, by show (0 : Int) ≤ 0; decide, by show (0 : Int) ≤ _; decide, by show (2000 : Int) ≤ _; decide, by show (1000 : Int) ≤ _; decide, m0, Int.le_refl _, m1, k0, k1, by show (0 : Int) ≤ 0; decide, by show (0 : Int) ≤ 3; decide⟩
theorem LB_work {m k : Int} (h : k < 1000) : (LB m k).work 1 = (LB m (k + 1), true) := by
  unfold St.work
  rw [if_neg (by simp [LB]), if_neg (by simp only [LB]; omega)]
  simp [LB]
theorem LB_rd {m k : Int} {p t : Nat} {n : Int} (h : k < 1000) (h0 : 0 ≤ n) (h1 : n ≤ (t : Int) - p) : Sr.rdB (LB m k) p t n = true := by
  unfold Sr.rdB Sr.canB
  rw [LB_work h, decide_eq_true h0, decide_eq_true h1]
  rfl
theorem LB_out {m k : Int} {p t : Nat} {n : Int} (h1 : (t : Int) - p < n) : Sr.rdB (LB m k) p t n = false := by
  unfold Sr.rdB Sr.canB
  rw [decide_eq_false (show ¬ n ≤ (t : Int) - p by omega)]
  simp

end Go.Proofs.Ytljbhahdaepecaa.Pa
