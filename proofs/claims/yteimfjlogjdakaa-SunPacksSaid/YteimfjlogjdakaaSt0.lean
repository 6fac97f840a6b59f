/- Stretches of like bytes of a text (pure): where each begins, how long it is, how many there are. -/
import Derived.Lib.RabinKarpLaws
import Derived.Lib.Hide
namespace Go.Proofs.Yteimfjlogjdakaa.St
set_option linter.unusedVariables false

/-- A byte of a text. -/
def bu (s : ByteArray) (k : Nat) : UInt8 := s.data.toList.getD k 0
theorem bu_at (s : ByteArray) (k : Nat) (h : k < s.size) : s[k]'h = bu s k := by
  have h1 := Go.Proofs.byte_at s k h
  unfold bu
  rw [List.getD_eq_getElem?_getD, h1]
  rfl
theorem bu_nat (s : ByteArray) (k : Nat) (h : k < s.size) {c : UInt8} (e : bu s k = c) : ((s[k]'h).toNat : Int) = (c.toNat : Int) := by rw [bu_at, e]
theorem u_lt (c : UInt8) : c.toNat < 256 := UInt8.toNat_lt _
theorem u_eq {a b : UInt8} (h : a.toNat = b.toNat) : a = b := UInt8.toNat_inj.1 h

/-- k bytes from i on are one, and no more of those, up to m. -/
structure SK (s : ByteArray) (m i k : Nat) : Prop where
  k1 : 1 ≤ k
  km : k ≤ m
  le : i + k ≤ s.size
  same : ∀ j, j < k → bu s (i + j) = bu s i
  stop : k = m ∨ i + k = s.size ∨ bu s (i + k) ≠ bu s i
theorem SK.uniq {s : ByteArray} {m i k l : Nat} (h : SK s m i k) (g : SK s m i l) : k = l := by
  rcases Nat.lt_trichotomy k l with q | q | q
  · exfalso
    rcases h.stop with t | t | t
    · have := g.km; omega
    · have := g.le; omega
    · exact t (g.same k q)
  · exact q
  · exfalso
    rcases g.stop with t | t | t
    · have := h.km; omega
    · have := h.le; omega
    · exact t (h.same l q)
theorem sk_ex (s : ByteArray) (m i : Nat) (hi : i < s.size) (hm : 1 ≤ m) : ∃ k, SK s m i k := by
  have : ∀ d k, m - k = d → 1 ≤ k → k ≤ m → i + k ≤ s.size → (∀ j, j < k → bu s (i + j) = bu s i) → ∃ k, SK s m i k := by
    intro d
    induction d with
    | zero => intro k hd h1 hm hl hs; exact ⟨k, h1, hm, hl, hs, .inl (by omega)⟩
    | succ d ih =>
      intro k hd h1 hm hl hs
      by_cases e : i + k = s.size
      · exact ⟨k, h1, hm, hl, hs, .inr (.inl e)⟩
      · by_cases q : bu s (i + k) = bu s i
        · exact ih (k + 1) (by omega) (by omega) (by omega) (by omega) (fun j hj => by
            by_cases ej : j = k
            · rw [ej]; exact q
            · exact hs j (by omega))
        · exact ⟨k, h1, hm, hl, hs, .inr (.inr q)⟩
  exact this _ 1 rfl (Nat.le_refl _) hm (by omega) (fun j hj => by rw [show i + j = i by omega])
open Classical in
noncomputable def sk (s : ByteArray) (m i : Nat) : Nat := if h : ∃ k, SK s m i k then h.choose else 1
theorem sk_is {s : ByteArray} {m i k : Nat} (h : SK s m i k) : sk s m i = k := by
  have hx : ∃ k, SK s m i k := ⟨k, h⟩
  unfold sk
  rw [dif_pos hx]
  exact hx.choose_spec.uniq h
/-- Where stretch j begins. -/
noncomputable def ps (s : ByteArray) (m : Nat) : Nat → Nat
  | 0 => 0
  | j + 1 => if ps s m j < s.size then ps s m j + sk s m (ps s m j) else ps s m j
theorem ps_next {s : ByteArray} {m j i k : Nat} (h : ps s m j = i) (hi : i < s.size) (hk : SK s m i k) : ps s m (j + 1) = i + k := by
  rw [ps, h, if_pos hi, sk_is hk]
theorem ps_le (s : ByteArray) (m : Nat) (hm : 1 ≤ m) : ∀ j, ps s m j ≤ s.size
  | 0 => Nat.zero_le _
  | j + 1 => by
    have h := ps_le s m hm j
    by_cases q : ps s m j < s.size
    · obtain ⟨k, hk⟩ := sk_ex s m _ q hm
      rw [ps_next rfl q hk]
      exact hk.le
    · rw [ps, if_neg q]; exact h
/-- N stretches are all of the text. -/
structure SN (s : ByteArray) (m N : Nat) : Prop where
  lt : ∀ j, j < N → ps s m j < s.size
  ed : ps s m N = s.size
theorem sn_ex (s : ByteArray) (m : Nat) (hm : 1 ≤ m) : ∃ N, SN s m N := by
  have : ∀ d j, s.size - ps s m j = d → (∀ i, i < j → ps s m i < s.size) → ∃ N, SN s m N := by
    intro d
    induction d using Nat.strongRecOn with
    | ind d ih =>
      intro j hd hj
      by_cases q : ps s m j < s.size
      · obtain ⟨k, hk⟩ := sk_ex s m _ q hm
        have hn := ps_next rfl q hk
        have := hk.k1
        exact ih (s.size - ps s m (j + 1)) (by omega) (j + 1) rfl (fun i hi => by
          by_cases e : i = j
          · rw [e]; exact q
          · exact hj i (by omega))
      · have := ps_le s m hm j
        exact ⟨j, hj, by omega⟩
  exact this _ 0 rfl (fun i hi => absurd hi (by omega))
theorem ps_grow {s : ByteArray} {m N : Nat} (hm : 1 ≤ m) (h : SN s m N) : ∀ j, j ≤ N → j ≤ ps s m j
  | 0, _ => Nat.zero_le _
  | j + 1, hj => by
    have h1 := ps_grow hm h j (by omega)
    have q := h.lt j (by omega)
    obtain ⟨k, hk⟩ := sk_ex s m _ q hm
    rw [ps_next rfl q hk]
    have := hk.k1
    omega
theorem SN.le {s : ByteArray} {m N : Nat} (hm : 1 ≤ m) (h : SN s m N) : N ≤ s.size := by
  have := ps_grow hm h N (Nat.le_refl _)
  rw [h.ed] at this
  exact this
/-- What is put for j stretches, each by its length and its byte. -/
noncomputable def pu (f : Nat → UInt8 → List UInt8) (s : ByteArray) (m : Nat) : Nat → List UInt8
  | 0 => []
  | j + 1 => pu f s m j ++ f (sk s m (ps s m j)) (bu s (ps s m j))
theorem pu_next {f : Nat → UInt8 → List UInt8} {s : ByteArray} {m j i k : Nat} (h : ps s m j = i) (hk : SK s m i k) : pu f s m (j + 1) = pu f s m j ++ f k (bu s i) := by
  rw [pu, h, sk_is hk]
theorem pu_len {f : Nat → UInt8 → List UInt8} {s : ByteArray} {m N : Nat} (hm : 1 ≤ m) (h : SN s m N) (hf : ∀ k v, 1 ≤ k → k ≤ m → (f k v).length ≤ 2 * k) : ∀ j, j ≤ N → (pu f s m j).length ≤ 2 * ps s m j
  | 0, _ => Nat.zero_le _
  | j + 1, hj => by
    have h1 := pu_len hm h hf j (by omega)
    obtain ⟨k, hk⟩ := sk_ex s m _ (h.lt j (by omega)) hm
    rw [ps_next rfl (h.lt j (by omega)) hk, pu_next rfl hk, List.length_append]
    have := hf k (bu s (ps s m j)) hk.k1 hk.km
    omega
/-- As a text of its own, whoever counts the stretches. -/
theorem pu_end {f : Nat → UInt8 → List UInt8} {s : ByteArray} {m N M : Nat} (h : SN s m N) (g : SN s m M) : pu f s m N = pu f s m M := by
  have : N = M := by
    rcases Nat.lt_trichotomy N M with q | q | q
    · have := g.lt N q; have := h.ed; omega
    · exact q
    · have := h.lt M q; have := g.ed; omega
  rw [this]

end Go.Proofs.Yteimfjlogjdakaa.St
