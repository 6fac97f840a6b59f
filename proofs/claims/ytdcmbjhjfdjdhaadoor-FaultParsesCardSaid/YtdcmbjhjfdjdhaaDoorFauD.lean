/- What a text is by the document, and that the code's answer is the same: pure. -/
import Derived.Test.YtdcmbjhjfdjdhaaDoorFauC
namespace Go.Proofs.YtdcmbjhjfdjdhaaDoor.Fa
open Go.RowKit
set_option linter.unusedVariables false

/-- The number that digits go on to tell behind v, by the document; none: a byte is no digit, or v is too great. -/
def rdig : List UInt8 → Int → Option Int
  | [], v => some v
  | c :: cs, v => if (c.toNat : Int) < 48 ∨ 57 < (c.toNat : Int) ∨ 461168601842738790 < v then none else rdig cs (10 * v + (c.toNat : Int) - 48)
def rnum (d : List UInt8) : Option Int := if 19 < d.length ∨ (d.head? = some 48 ∧ 1 < d.length) then none else rdig d 0

theorem pl_rdig : ∀ (cs : List UInt8) (a r : Int), pl cs a = some r → rdig cs a = some r
  | [], a, r, h => h
  | c :: cs, a, r, h => by
    rw [pl] at h
    split at h
    · cases h
    split at h
    · cases h
    rw [rdig, if_neg (by omega)]
    have := pl_rdig cs _ r h
    rwa [show 10 * a + (c.toNat : Int) - 48 = 10 * a + ((c.toNat : Int) - 48) from by omega]
theorem rdig_up : ∀ (cs : List UInt8) (v r : Int), 0 ≤ v → rdig cs v = some r → v ≤ r
  | [], v, r, _, h => by cases h; exact Int.le_refl _
  | c :: cs, v, r, h0, h => by
    rw [rdig] at h
    split at h
    · cases h
    · have := rdig_up cs _ r (by omega) h
      omega
theorem rdig_pl : ∀ (cs : List UInt8) (v r : Int), 0 ≤ v → rdig cs v = some r → r ≤ 4611686018427387904 → pl cs v = some r
  | [], v, r, _, h, _ => h
  | c :: cs, v, r, h0, h, hr => by
    rw [rdig] at h
    split at h
    · cases h
    rename_i hc
    have hu := rdig_up cs _ r (by omega) h
    rw [pl, if_neg (by omega), if_neg (by omega)]
    rw [show 10 * v + (c.toNat : Int) - 48 = 10 * v + ((c.toNat : Int) - 48) from by omega] at h
    exact rdig_pl cs _ r (by omega) h hr
/-- Digits behind a number that isn't 0 make it ten times greater, each. -/
theorem pl_len : ∀ (cs : List UInt8) (a r : Int), 1 ≤ a → a ≤ 4611686018427387904 → pl cs a = some r → a * 10 ^ cs.length ≤ r ∧ r ≤ 4611686018427387904
  | [], a, r, _, ha, h => by cases h; simp; omega
  | c :: cs, a, r, h1, ha, h => by
    rw [pl] at h
    split at h
    · cases h
    split at h
    · cases h
    rename_i hc hb
    obtain ⟨h2, h3⟩ := pl_len cs _ r (by omega) (by omega) h
    refine ⟨?_, h3⟩
    rw [List.length_cons, Int.pow_succ, Int.mul_comm (10 ^ cs.length) 10, ← Int.mul_assoc]
    have hp : (0 : Int) ≤ 10 ^ cs.length := Int.pow_nonneg (by decide)
    have : a * 10 * 10 ^ cs.length ≤ (10 * a + ((c.toNat : Int) - 48)) * 10 ^ cs.length := Int.mul_le_mul_of_nonneg_right (by omega) hp
    omega
theorem place_short {d : List UInt8} {r : Int} (h : placeO d = some r) : d.length ≤ 19 := by
  unfold placeO at h
  split at h
  · cases h
  rename_i hn
  match d, hn, h with
  | [], hn, _ => simp
  | [c], _, _ => simp
  | c :: c2 :: cs, hn, h =>
    rw [pl] at h
    split at h
    · cases h
    split at h
    · cases h
    rename_i hc hb
    have hne : (c.toNat : Int) ≠ 48 := by
      intro e
      have : c = 48 := UInt8.toNat_inj.1 (by have h48 : (48 : UInt8).toNat = 48 := rfl; omega)
      subst this
      exact hn (.inr ⟨by simp, rfl⟩)
    obtain ⟨h2, h3⟩ := pl_len (c2 :: cs) _ r (by omega) (by omega) h
    rcases Nat.lt_or_ge 18 (c2 :: cs).length with hl | hl
    · exfalso
      have hp : (10 : Int) ^ 19 ≤ 10 ^ (c2 :: cs).length := by
        have := Nat.pow_le_pow_right (n := 10) (by decide) (show 19 ≤ (c2 :: cs).length from hl)
        exact_mod_cast this
      have h4 : (1 : Int) * 10 ^ (c2 :: cs).length ≤ (10 * 0 + ((c.toNat : Int) - 48)) * 10 ^ (c2 :: cs).length := Int.mul_le_mul_of_nonneg_right (by omega) (Int.pow_nonneg (by decide))
      have h5 : (10 : Int) ^ 19 = 10000000000000000000 := by decide
      omega
    · rw [List.length_cons]
      omega
theorem place_rnum {d : List UInt8} {r : Int} (h : placeO d = some r) : rnum d = some r := by
  have hl := place_short h
  unfold placeO at h
  split at h
  · cases h
  rename_i hn
  unfold rnum
  rw [if_neg]
  · exact pl_rdig d 0 r h
  · rintro (h1 | ⟨h1, h2⟩)
    · omega
    · exact hn (.inr ⟨h2, h1⟩)
theorem rnum_place {d : List UInt8} {r : Int} (hd : d ≠ []) (h : rnum d = some r) (hr : r ≤ 4611686018427387904) : placeO d = some r := by
  unfold rnum at h
  split at h
  · cases h
  rename_i hn
  unfold placeO
  rw [if_neg]
  · exact rdig_pl d 0 r (by decide) h hr
  · rintro (h1 | ⟨h1, h2⟩)
    · exact hd h1
    · exact hn (.inr ⟨h2, h1⟩)

/-- What stands ahead of the digits. -/
def front (k x : Nat) : List UInt8 := (kw k).data.toList ++ 32 :: ((fw x).data.toList ++ [32])
def Hit (l : List UInt8) (k x : Nat) : Prop := (front k x).length < l.length ∧ l.take (front k x).length = front k x
instance (l : List UInt8) (k x : Nat) : Decidable (Hit l k x) := inferInstanceAs (Decidable (_ ∧ _))
def rest (l : List UInt8) (k x : Nat) : List UInt8 := l.drop (front k x).length
/-- The document's four answers where the front is right. -/
def resV (k x : Nat) (d : List UInt8) : Int × Int × Int × Bool :=
  match rnum d with
  | none => (0, 0, 0, false)
  | some v => if rightB k x v = true then (k, x, v, true) else (0, 0, 0, false)
def rF (l : List UInt8) (k : Nat) : Nat → Nat → Option (Int × Int × Int × Bool)
  | 0, _ => none
  | n + 1, j => if Hit l k j then some (resV k j (rest l k j)) else rF l k n (j + 1)
def rK (l : List UInt8) : Nat → Nat → Option (Int × Int × Int × Bool)
  | 0, _ => none
  | n + 1, i => match rF l i 9 0 with
    | some v => some v
    | none => rK l n (i + 1)
/-- The document's answers. -/
def rparse (l : List UInt8) : Int × Int × Int × Bool := (rK l 5 0).getD (0, 0, 0, false)

theorem hit_eq {l : List UInt8} {k x : Nat} (h : Hit l k x) : l = (kw k).data.toList ++ 32 :: ((fw x).data.toList ++ 32 :: rest l k x) ∧ rest l k x ≠ [] := by
  obtain ⟨h1, h2⟩ := h
  refine ⟨?_, ?_⟩
  · have h3 := List.take_append_drop (front k x).length l
    rw [h2] at h3
    have h4 : l = front k x ++ rest l k x := h3.symm
    rw [h4]
    conv => rhs; rw [← h4]
    simp [front]
  · intro e
    have := congrArg List.length e
    unfold rest at this
    rw [List.length_drop] at this
    simp at this
    omega
theorem hit_cut {l : List UInt8} {k x : Nat} (h : Hit l k x) : w1 l = (kw k).data.toList ∧ w1 (r1 l) = (fw x).data.toList ∧ r1 (r1 l) = rest l k x := by
  obtain ⟨e, _⟩ := hit_eq h
  have c1 := cut_word (kw k).data.toList ((fw x).data.toList ++ 32 :: rest l k x) (kw_blank k)
  have c2 := cut_word (fw x).data.toList (rest l k x) (fw_blank x)
  rw [← e] at c1
  have e2 : r1 l = (fw x).data.toList ++ 32 :: rest l k x := by unfold r1; rw [c1]
  refine ⟨by unfold w1; rw [c1], ?_, ?_⟩
  · rw [e2]; unfold w1; rw [c2]
  · rw [e2]; unfold r1; rw [c2]
theorem kw_inj : ∀ i j : Fin 5, (kw (i.1 : Int)).data.toList = (kw (j.1 : Int)).data.toList → i = j := by decide
theorem fw_inj : ∀ i j : Fin 9, (fw (i.1 : Int)).data.toList = (fw (j.1 : Int)).data.toList → i = j := by decide
theorem hit_one {l : List UInt8} {k x k' x' : Nat} (h : Hit l k x) (h' : Hit l k' x') (hk : k < 5) (hx : x < 9) (hk' : k' < 5) (hx' : x' < 9) : k = k' ∧ x = x' := by
  obtain ⟨a1, a2, _⟩ := hit_cut h
  obtain ⟨b1, b2, _⟩ := hit_cut h'
  have e1 := kw_inj ⟨k, hk⟩ ⟨k', hk'⟩ (a1.symm.trans b1)
  have e2 := fw_inj ⟨x, hx⟩ ⟨x', hx'⟩ (a2.symm.trans b2)
  exact ⟨congrArg Fin.val e1, congrArg Fin.val e2⟩

theorem rF_none {l : List UInt8} {k : Nat} : ∀ (n j : Nat), (∀ x, j ≤ x → x < j + n → ¬ Hit l k x) → rF l k n j = none
  | 0, _, _ => rfl
  | n + 1, j, h => by
    rw [rF, if_neg (h j (Nat.le_refl _) (by omega))]
    exact rF_none n (j + 1) (fun x h1 h2 => h x (by omega) (by omega))
theorem rF_some {l : List UInt8} {k x : Nat} (hx : Hit l k x) : ∀ (n j : Nat), j ≤ x → x < j + n → (∀ y, j ≤ y → y < x → ¬ Hit l k y) → rF l k n j = some (resV k x (rest l k x))
  | 0, j, h1, h2, _ => by omega
  | n + 1, j, h1, h2, h => by
    rw [rF]
    by_cases e : j = x
    · subst e
      rw [if_pos hx]
    · rw [if_neg (h j (Nat.le_refl _) (by omega))]
      exact rF_some hx n (j + 1) (by omega) (by omega) (fun y a b => h y (by omega) b)
theorem rK_none {l : List UInt8} : ∀ (n i : Nat), (∀ k x, i ≤ k → k < i + n → x < 9 → ¬ Hit l k x) → rK l n i = none
  | 0, _, _ => rfl
  | n + 1, i, h => by
    rw [rK, rF_none 9 0 (fun x _ hx => h i x (Nat.le_refl _) (by omega) (by omega))]
    exact rK_none n (i + 1) (fun k x a b c => h k x (by omega) (by omega) c)
theorem rK_some {l : List UInt8} {k x : Nat} (hx : Hit l k x) (hk : k < 5) (h9 : x < 9) : ∀ (n i : Nat), i ≤ k → k < i + n → i + n = 5 → rK l n i = some (resV k x (rest l k x))
  | 0, i, h1, h2, _ => by omega
  | n + 1, i, h1, h2, h5 => by
    rw [rK]
    by_cases e : i = k
    · subst e
      rw [rF_some hx 9 0 (Nat.zero_le _) (by omega) (fun y _ hy hh => by have := (hit_one hx hh hk h9 hk (by omega)).2; omega)]
    · rw [rF_none 9 0 (fun y _ hy hh => by have := (hit_one hx hh hk h9 (by omega) (by omega)).1; omega)]
      exact rK_some hx hk h9 n (i + 1) (by omega) (by omega) (by omega)

theorem find_of {f : Int → ByteArray} {s : ByteArray} : ∀ (n k : Nat) (r : Int), findW f s n k = (r, true) → ∃ j : Nat, r = j ∧ k ≤ j ∧ j < k + n ∧ f j = s
  | 0, k, r, h => by simp [findW] at h
  | n + 1, k, r, h => by
    rw [findW] at h
    split at h
    · rename_i e
      simp at h
      exact ⟨k, h.symm, Nat.le_refl _, by omega, e⟩
    · obtain ⟨j, h1, h2, h3, h4⟩ := find_of n (k + 1) r h
      exact ⟨j, h1, by omega, by omega, h4⟩
theorem index_parts : ∀ (l : List UInt8), 0 ≤ Lib.index l [32] → l = l.take (Lib.index l [32]).toNat ++ 32 :: l.drop ((Lib.index l [32]).toNat + 1)
  | [], h => by
    have : Lib.index [] [32] = -1 := rfl
    omega
  | b :: l, h => by
    rw [Lib.index] at h ⊢
    by_cases hb : List.isPrefixOf [32] (b :: l) = true
    · rw [if_pos hb]
      have e0 : ((32 : UInt8) == b) = true := by simpa [List.isPrefixOf] using hb
      have e : b = 32 := (eq_of_beq e0).symm
      subst e
      rfl
    · rw [if_neg hb] at h ⊢
      by_cases h1 : (Lib.index l [32] == -1) = true
      · rw [if_pos h1] at h
        omega
      · rw [if_neg h1] at h ⊢
        have hg := Lib.index_ge l [32]
        have hn : Lib.index l [32] ≠ -1 := by simpa using h1
        have ih := index_parts l (by omega)
        obtain ⟨n, hi⟩ := Int.eq_ofNat_of_zero_le (show 0 ≤ Lib.index l [32] by omega)
        rw [hi] at ih ⊢
        have e : ((n : Int) + 1).toNat = n + 1 := by omega
        rw [e]
        simp only [Int.toNat_natCast, List.take_succ_cons, List.drop_succ_cons, List.cons_append] at ih ⊢
        rw [← ih]
theorem cut_back (l : List UInt8) : l = w1 l ++ 32 :: r1 l ∨ r1 l = [] := by
  unfold w1 r1 Lib.cut
  split
  · rename_i h
    exact .inl (index_parts l h)
  · exact .inr rfl

/-- The code's answer is the document's. -/
def okV (r : Int × Int × Int × Bool) : Value :=
  if r.2.2.2 = true then .tuple #[.agg #[.int .i64 r.1, .int .i64 r.2.1, .int .i64 r.2.2.1], .int .i64 0] else .tuple #[.agg #[.int .i64 0, .int .i64 0, .int .i64 0], .int .i64 6]
theorem right_le {k x a : Int} (h : rightB k x a = true) : a ≤ 4611686018427387904 := (right_is h).2.2.2.2.2
theorem parse_same (l : List UInt8) : parseV l = okV (rparse l) := by
  by_cases hh : ∃ k x, k < 5 ∧ x < 9 ∧ Hit l k x
  · obtain ⟨k, x, hk, hx, h⟩ := hh
    obtain ⟨c1, c2, c3⟩ := hit_cut h
    have hd := (hit_eq h).2
    have e1 : kOf l = ((k : Int), true) := by
      unfold kOf
      rw [c1]
      exact kw_found k (by omega) (by omega)
    have e2 : mOf l = ((x : Int), true) := by
      unfold mOf
      rw [c2]
      exact fw_found x (by omega) (by omega)
    have e3 : aOf l = placeO (rest l k x) := by unfold aOf; rw [c3]
    have e4 : rparse l = resV k x (rest l k x) := by unfold rparse; rw [rK_some h hk hx 5 0 (Nat.zero_le _) (by omega) rfl]; rfl
    rw [e4]
    unfold parseV
    rw [e1, e2, e3]
    unfold resV
    cases hp : placeO (rest l k x) with
    | some a =>
      rw [place_rnum hp]
      show fin true true true (rightB k x a) k x a = okV (if rightB k x a = true then ((k : Int), (x : Int), a, true) else (0, 0, 0, false))
      by_cases hr : rightB k x a = true
      · rw [if_pos hr, hr]
        exact (fin_ok rfl rfl rfl).trans rfl
      · rw [if_neg hr, show rightB k x a = false from by simpa using hr]
        rfl
    | none =>
      show fin true true false _ _ _ _ = _
      rw [fin_a (by decide)]
      cases hn : rnum (rest l k x) with
      | none => rfl
      | some v =>
        have : rightB k x v ≠ true := fun hr => by
          rw [rnum_place hd hn (right_le hr)] at hp
          cases hp
        simp [okV, this]
  · have e4 : rparse l = (0, 0, 0, false) := by
      unfold rparse
      rw [rK_none 5 0 (fun k x _ hk hx h => hh ⟨k, x, by omega, hx, h⟩)]
      rfl
    rw [e4]
    show parseV l = .tuple #[.agg #[.int .i64 0, .int .i64 0, .int .i64 0], .int .i64 6]
    unfold parseV
    by_cases h1 : (kOf l).2 = true
    · by_cases h2 : (mOf l).2 = true
      · by_cases h3 : (aOf l).isSome = true
        · exfalso
          obtain ⟨k, _, _, hk, ek⟩ := find_of 5 0 (kOf l).1 (show findW kw ⟨(w1 l).toArray⟩ 5 0 = ((kOf l).1, true) from by rw [← h1]; rfl)
          obtain ⟨x, _, _, hx, ex⟩ := find_of 9 0 (mOf l).1 (show findW fw ⟨(w1 (r1 l)).toArray⟩ 9 0 = ((mOf l).1, true) from by rw [← h2]; rfl)
          have ek' : (kw k).data.toList = w1 l := by rw [ek]
          have ex' : (fw x).data.toList = w1 (r1 l) := by rw [ex]
          have hne : r1 (r1 l) ≠ [] := by
            intro e
            unfold aOf at h3
            rw [e] at h3
            simp [placeO] at h3
          have hn2 : r1 l ≠ [] := by
            intro e
            rw [e] at hne
            exact hne rfl
          have p1 := (cut_back l).resolve_right hn2
          have p2 := (cut_back (r1 l)).resolve_right hne
          have pl' : l = front k x ++ r1 (r1 l) := by
            rw [front, ek', ex']
            conv => lhs; rw [p1, p2]
            simp
          refine hh ⟨k, x, by omega, by omega, ?_, ?_⟩
          · have := congrArg List.length pl'
            rw [List.length_append] at this
            have := List.length_pos_iff.2 hne
            omega
          · conv => lhs; rw [pl']
            simp
        · exact fin_a h3
      · exact fin_x h2
    · exact fin_k h1

end Go.Proofs.YtdcmbjhjfdjdhaaDoor.Fa
