/- Layer 18, pure: what Pack wrote is read packet by packet. -/
import Derived.Test.YtfjnhpdlellooaaPk4
namespace Go.Proofs.Ytfjnhpdlellooaa.Pk
open Go.ChangeShapes Go.WideShapes Go.ChangeAt Go.RowKit
set_option linter.unusedVariables false

section
variable {L : Nat → ByteArray} {N : Nat}
theorem ex_al {i : Nat} (hi : i < N) : ∃ n, AL L N i n := by
  suffices h : ∀ d n, n + d = 128 → 1 ≤ n → i + n ≤ N → (∀ k, k < n → L (i + k) = L i) → ∃ n, AL L N i n from
    h 127 1 rfl (by omega) (by omega) (fun k hk => by obtain rfl : k = 0 := (by omega); rfl)
  intro d
  induction d with
  | zero => exact fun n hn h1 h2 h3 => ⟨n, h1, by omega, h2, h3, .inl (by omega)⟩
  | succ d ih =>
    intro n hn h1 h2 h3
    by_cases e : i + n = N
    · exact ⟨n, h1, by omega, h2, h3, .inr (.inl e)⟩
    · by_cases f : L (i + n) = L i
      · refine ih (n + 1) (by omega) (by omega) (by omega) (fun k hk => ?_)
        by_cases g : k < n
        · exact h3 k g
        · obtain rfl : k = n := by omega
          exact f
      · exact ⟨n, h1, by omega, h2, h3, .inr (.inr f)⟩
theorem ex_ul {i : Nat} (hi : i < N) : ∃ n, UL L N i n := by
  suffices h : ∀ d n, n + d = 128 → i + n ≤ N → (∀ k, k < n → ¬ (i + k + 1 < N ∧ L (i + k) = L (i + k + 1))) → ∃ n, UL L N i n from
    h 128 0 rfl (by omega) (fun k hk => absurd hk (by omega))
  intro d
  induction d with
  | zero => exact fun n hn h2 h3 => ⟨n, by omega, h2, h3, .inl (by omega)⟩
  | succ d ih =>
    intro n hn h2 h3
    by_cases e : i + n = N
    · exact ⟨n, by omega, h2, h3, .inr (.inl e)⟩
    · by_cases f : i + n + 1 < N ∧ L (i + n) = L (i + n + 1)
      · exact ⟨n, by omega, h2, h3, .inr (.inr f)⟩
      · refine ih (n + 1) (by omega) (by omega) (fun k hk => ?_)
        by_cases g : k < n
        · exact h3 k g
        · obtain rfl : k = n := by omega
          exact f
theorem pk_pre {k K : Nat} (h : k ≤ K) : ∃ r, (pk L N K).2 = (pk L N k).2 ++ r := by
  induction K with
  | zero =>
    obtain rfl : k = 0 := by omega
    exact ⟨[], by simp⟩
  | succ K ih =>
    by_cases e : k = K + 1
    · subst e; exact ⟨[], by simp⟩
    · obtain ⟨r, hr⟩ := ih (by omega)
      show ∃ r, (pkStep L N (pk L N K)).2 = _
      unfold pkStep
      split
      · exact ⟨r, hr⟩
      · split
        · exact ⟨r ++ (UInt8.ofNat (127 + alN L N (pk L N K).1) :: (L (pk L N K).1).data.toList), by rw [← List.append_assoc, ← hr]⟩
        · exact ⟨r ++ (UInt8.ofNat (ulN L N (pk L N K).1 - 1) :: cat L (pk L N K).1 (ulN L N (pk L N K).1)), by rw [← List.append_assoc, ← hr]⟩
end

theorem ext_mid (s : ByteArray) (A B C : List UInt8) (h : s.data.toList = A ++ (B ++ C)) : s.extract A.length (A.length + B.length) = ⟨B.toArray⟩ := by
  apply ByteArray.ext
  apply Array.toList_inj.1
  rw [Lib.extract_data, h, show A.length + B.length - A.length = B.length from by omega, List.drop_left, List.take_left]
theorem idx_mid (s : ByteArray) (A : List UInt8) (b : UInt8) (C : List UInt8) (h : s.data.toList = A ++ (b :: C)) : ∃ hx : A.length < s.size, s[A.length]'hx = b := by
  have hs : s.size = s.data.toList.length := Lib.size_eq s
  have hx : A.length < s.size := by rw [hs, h, List.length_append, List.length_cons]; omega
  refine ⟨hx, ?_⟩
  have h1 := Go.Proofs.byte_at s A.length hx
  rw [h, List.getElem?_append_right (Nat.le_refl _), Nat.sub_self] at h1
  simp at h1
  exact h1.symm
theorem cat_len {L : Nat → ByteArray} {sz i : Nat} : ∀ n, (∀ k, k < n → (L (i + k)).size = sz) → (cat L i n).length = n * sz
  | 0, _ => by show 0 = _; omega
  | n + 1, h => by
    show (cat L i n ++ (L (i + n)).data.toList).length = _
    rw [List.length_append, cat_len n (fun k hk => h k (by omega)), ← Lib.size_eq, h n (by omega), Nat.succ_mul]
theorem cat_cut {L : Nat → ByteArray} {sz i : Nat} : ∀ n, (∀ k, k < n → (L (i + k)).size = sz) → ∀ j, j < n → ∃ A C, cat L i n = A ++ ((L (i + j)).data.toList ++ C) ∧ A.length = j * sz
  | 0, _, j, hj => absurd hj (by omega)
  | n + 1, h, j, hj => by
    by_cases e : j = n
    · subst e
      exact ⟨cat L i j, [], by simp [cat], cat_len j (fun k hk => h k (by omega))⟩
    · obtain ⟨A, C, h1, h2⟩ := cat_cut n (fun k hk => h k (by omega)) j (by omega)
      exact ⟨A, C ++ (L (i + n)).data.toList, by show cat L i n ++ _ = _; rw [h1]; simp, h2⟩

/-- A packet as it is read: what its first byte tells, where its pixels stand. -/
theorem pk_read {L : Nat → ByteArray} {N K k i sz : Nat} {t : List UInt8} {s : ByteArray} {z : List UInt8} (hz : ∀ k, k < N → (L k).size = sz) (hs : s.data.toList = (pk L N K).2 ++ z) (hK : (pk L N K).1 = N) (hk : pk L N k = (i, t)) (hi : i < N) :
    ∃ h F M t', pk L N (k + 1) = (i + F * M, t') ∧ h < 256 ∧ flw h = F ∧ tms h = M ∧ (∃ hx : t.length < s.size, (s[t.length]'hx).toNat = h) ∧ 1 ≤ F * M ∧ i + F * M ≤ N ∧ F ≤ 128 ∧ M ≤ 128 ∧ t'.length = t.length + 1 + F * sz ∧ t'.length ≤ s.size ∧
      ∀ f, f < F → ∀ m, m < M → s.extract (t.length + 1 + f * sz) (t.length + 1 + f * sz + sz) = L (i + f * M + m) := by
  have hkK : k + 1 ≤ K := by
    rcases Nat.lt_or_ge k K with h | h
    · exact h
    · have := pk_stay (L := L) (N := N) h (by omega)
      rw [this] at hk
      have : (pk L N K).1 = i := by rw [hk]
      omega
  obtain ⟨r, hr⟩ := pk_pre (L := L) (N := N) hkK
  rw [hr] at hs
  obtain ⟨n, al⟩ := ex_al (L := L) hi
  by_cases hn : 1 < n
  · have e := pk_run hk hi al hn
    rw [e] at hs
    have hs : s.data.toList = (t ++ (UInt8.ofNat (127 + n) :: (L i).data.toList)) ++ r ++ z := hs
    have hn2 := al.2.1
    have hv : (UInt8.ofNat (127 + n)).toNat = 127 + n := by rw [UInt8.toNat_ofNat']; omega
    obtain ⟨hx, hx2⟩ := idx_mid s t (UInt8.ofNat (127 + n)) ((L i).data.toList ++ r ++ z) (by rw [hs]; simp)
    have hl : (L i).data.toList.length = sz := by rw [← Lib.size_eq]; exact hz i hi
    have hsz : s.size = t.length + 1 + sz + (r ++ z).length := by rw [Lib.size_eq, hs]; simp [hl]; omega
    refine ⟨127 + n, 1, n, _, by rw [Nat.one_mul]; exact e, by omega, by unfold flw; rw [if_pos (by omega)], by unfold tms; rw [if_pos (by omega)]; omega, ⟨hx, by rw [hx2, hv]⟩, by omega, by have := al.2.2.1; omega, by omega, hn2, ?_, ?_, ?_⟩
    · rw [List.length_append, List.length_cons, hl]; omega
    · rw [List.length_append, List.length_cons, hl]; omega
    · intro f hf m hm
      obtain rfl : f = 0 := by omega
      have hc := ext_mid s (t ++ [UInt8.ofNat (127 + n)]) (L i).data.toList (r ++ z) (by rw [hs]; simp)
      rw [hl, List.length_append] at hc
      have hc : s.extract (t.length + 1) (t.length + 1 + sz) = _ := hc
      rw [Nat.zero_mul, Nat.zero_mul]
      show s.extract (t.length + 1) (t.length + 1 + sz) = L (i + m)
      rw [hc, txt_of, al.2.2.2.1 m hm]
  · obtain rfl : n = 1 := by have := al.1; omega
    obtain ⟨u, ul⟩ := ex_ul (L := L) hi
    have hu1 := ul.one al
    have hu2 := ul.1
    have hu3 := ul.2.1
    have e := pk_lit hk hi al ul
    rw [e] at hs
    have hs : s.data.toList = (t ++ (UInt8.ofNat (u - 1) :: cat L i u)) ++ r ++ z := hs
    have hv : (UInt8.ofNat (u - 1)).toNat = u - 1 := by rw [UInt8.toNat_ofNat']; omega
    obtain ⟨hx, hx2⟩ := idx_mid s t (UInt8.ofNat (u - 1)) (cat L i u ++ r ++ z) (by rw [hs]; simp)
    have hz' : ∀ k, k < u → (L (i + k)).size = sz := fun k hk => hz (i + k) (by omega)
    have hl := cat_len u hz'
    have hsz : s.size = t.length + 1 + u * sz + (r ++ z).length := by rw [Lib.size_eq, hs]; simp [hl]; omega
    refine ⟨u - 1, u, 1, _, by rw [Nat.mul_one]; exact e, by omega, by unfold flw; rw [if_neg (by omega)]; omega, by unfold tms; rw [if_neg (by omega)], ⟨hx, by rw [hx2, hv]⟩, by omega, by omega, hu2, by omega, ?_, ?_, ?_⟩
    · rw [List.length_append, List.length_cons, hl]; omega
    · rw [List.length_append, List.length_cons, hl]; omega
    · intro f hf m hm
      obtain rfl : m = 0 := by omega
      obtain ⟨A, C, h1, h2⟩ := cat_cut u hz' f hf
      have hc := ext_mid s (t ++ (UInt8.ofNat (u - 1) :: A)) (L (i + f)).data.toList (C ++ (r ++ z)) (by rw [hs, h1]; simp)
      have hfl : (L (i + f)).data.toList.length = sz := by rw [← Lib.size_eq]; exact hz' f hf
      rw [hfl, List.length_append, List.length_cons, h2] at hc
      have e2 : t.length + (f * sz + 1) = t.length + 1 + f * sz := by omega
      rw [e2] at hc
      rw [Nat.mul_one, hc, txt_of]
      rfl

end Go.Proofs.Ytfjnhpdlellooaa.Pk
