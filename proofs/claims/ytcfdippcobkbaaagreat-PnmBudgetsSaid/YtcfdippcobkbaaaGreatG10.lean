/- Texts of one kind, one behind the other: Ptx1. -/
import Derived.Deep.AppendLies
import Derived.Test.YtcfdippcobkbaaaGreatG06
import Derived.Test.YtcfdippcobkbaaaGreatG08
import Derived.Test.YtcfdippcobkbaaaGreatG09
/- Layer 13: the pixels of a file as text, as plain functions; a fault, a grey pixel of the document's. -/
namespace Go.Proofs.YtcfdippcobkbaaaGreat.Px
open Go.ChangeShapes Go.WideShapes Go.ChangeAt Go.RowKit
open Go.Proofs.YtcfdippcobkbaaaGreat.Le Go.Proofs.YtcfdippcobkbaaaGreat.Tk Go.Proofs.YtcfdippcobkbaaaGreat.Sc
set_option linter.unusedVariables false

/-- A sample of eight bits. -/
def nearN (v m : Nat) : Nat := (near (v : Int) (m : Int)).toNat
theorem nearN_is {v m : Nat} (hm : 1 ≤ m) (hv : v ≤ m) : ((nearN v m : Nat) : Int) = near (v : Int) (m : Int) := by
  have := near_0 (v := (v : Int)) (m := (m : Int)) (by omega) (by omega)
  unfold nearN
  omega
theorem nearN_le {v m : Nat} (hm : 1 ≤ m) (hv : v ≤ m) : nearN v m ≤ 255 := by
  have h1 := nearN_is hm hv
  have := near_255 (v := (v : Int)) (m := (m : Int)) (by omega) (by omega)
  omega

/-- What a reading makes: a fault's kind and place; the place behind, a value, the readings. -/
structure SP where
  f : Nat
  p : Nat
  a : Nat
  v : Nat
  n : Nat
/-- A number as a sample of the greatest value m. -/
def smpV (s : ByteArray) (m a : Nat) : SP :=
  if (gotV s a).kind ≠ 0 then ⟨(gotV s a).kind, (gotV s a).place, 0, 0, numN s a⟩
  else if m < (gotV s a).v then ⟨2, (gotV s a).from_, 0, 0, numN s a⟩
  else ⟨0, 0, (gotV s a).next, nearN (gotV s a).v m, numN s a⟩
/-- A digit as a sample: 1 is black. -/
def bitV (s : ByteArray) (a : Nat) : SP :=
  if (digV s a).kind ≠ 0 then ⟨(digV s a).kind, (digV s a).place, 0, 0, ovN s a + 1⟩
  else ⟨0, 0, (digV s a).next, 255 * (1 - (digV s a).v), ovN s a + 1⟩
section
variable {s : ByteArray} {m a : Nat}
theorem smp_fault {kd pl : Nat} (g : gotV s a = ⟨0, 0, 0, kd, pl⟩) (h : kd ≠ 0) : smpV s m a = ⟨kd, pl, 0, 0, numN s a⟩ := by
  unfold smpV
  rw [g, if_pos h]
theorem smp_big {v f j : Nat} (g : gotV s a = ⟨v, f, j, 0, 0⟩) (h : m < v) : smpV s m a = ⟨2, f, 0, 0, numN s a⟩ := by
  unfold smpV
  rw [g, if_neg (fun h' => h' rfl), if_pos h]
theorem smp_yes {v f j : Nat} (g : gotV s a = ⟨v, f, j, 0, 0⟩) (h : v ≤ m) : smpV s m a = ⟨0, 0, j, nearN v m, numN s a⟩ := by
  unfold smpV
  rw [g, if_neg (fun h' => h' rfl), if_neg (by show ¬ m < v; omega)]
theorem bit_fault {kd pl : Nat} (g : digV s a = ⟨0, 0, 0, kd, pl⟩) (h : kd ≠ 0) : bitV s a = ⟨kd, pl, 0, 0, ovN s a + 1⟩ := by
  unfold bitV
  rw [g, if_pos h]
theorem bit_yes {v f j : Nat} (g : digV s a = ⟨v, f, j, 0, 0⟩) : bitV s a = ⟨0, 0, j, 255 * (1 - v), ovN s a + 1⟩ := by
  unfold bitV
  rw [g, if_neg (fun h' => h' rfl)]
end
/-- What holds of a sample. -/
def SG (s : ByteArray) (a : Nat) (o : SP) : Prop :=
  (o.f ≠ 0 ∧ o.f < 3 ∧ o.p ≤ s.size ∧ o.n ≤ s.size - a + 2) ∨ (o.f = 0 ∧ a < o.a ∧ o.a ≤ s.size ∧ o.v ≤ 255 ∧ o.n ≤ o.a - a + 2)
theorem smp_gd (s : ByteArray) (m a : Nat) (ha : a ≤ s.size) (hm : 1 ≤ m) : SG s a (smpV s m a) := by
  rcases gotV_gd s a ha with ⟨kd, pl, eg, h0, h3, hp, hN⟩ | ⟨v, f, j, eg, h1, h2, h3, h4, hN⟩
  · rw [smp_fault eg h0]
    exact .inl ⟨h0, h3, hp, hN⟩
  · by_cases hv : m < v
    · rw [smp_big eg hv]
      exact .inl ⟨by show (2 : Nat) ≠ 0; decide, by show 2 < 3; decide, by show f ≤ _; omega, by show numN s a ≤ _; omega⟩
    · rw [smp_yes eg (by omega)]
      exact .inr ⟨rfl, by show a < j; omega, h3, nearN_le hm (by omega), hN⟩
theorem bit_gd (s : ByteArray) (a : Nat) (ha : a ≤ s.size) : SG s a (bitV s a) := by
  rcases digV_gd s a ha with ⟨kd, pl, eg, h0, h3, hp, hN⟩ | ⟨v, f, j, eg, h1, h2, h3, h4, hN⟩
  · rw [bit_fault eg h0]
    exact .inl ⟨h0, h3, hp, hN⟩
  · rw [bit_yes eg]
    exact .inr ⟨rfl, by show a < j; omega, h3, by show 255 * (1 - v) ≤ 255; omega, hN⟩

/-- A pixel: a fault, or the place behind and its samples. -/
structure PX where
  f : Nat
  p : Nat
  a : Nat
  r : Nat
  g : Nat
  b : Nat
  n : Nat
/-- Samples so far. -/
structure SS where
  f : Nat
  p : Nat
  a : Nat
  vs : List Nat
  n : Nat
def SS.step (z : SS) (o : SP) : SS := if z.f ≠ 0 then z else if o.f ≠ 0 then ⟨o.f, o.p, z.a, z.vs, z.n + o.n⟩ else ⟨0, 0, o.a, z.vs ++ [o.v], z.n + o.n⟩
def sms (s : ByteArray) (m a : Nat) : Nat → SS
  | 0 => ⟨0, 0, a, [], 0⟩
  | k + 1 => (sms s m a k).step (smpV s m (sms s m a k).a)
theorem ss_stay {z : SS} {o : SP} (h : z.f ≠ 0) : z.step o = z := by
  unfold SS.step
  rw [if_pos h]
theorem ss_fault {z : SS} {o : SP} (h : z.f = 0) (h1 : o.f ≠ 0) : z.step o = ⟨o.f, o.p, z.a, z.vs, z.n + o.n⟩ := by
  unfold SS.step
  rw [if_neg (fun h' => h' h), if_pos h1]
theorem ss_yes {z : SS} {o : SP} (h : z.f = 0) (h1 : o.f = 0) : z.step o = ⟨0, 0, o.a, z.vs ++ [o.v], z.n + o.n⟩ := by
  unfold SS.step
  rw [if_neg (fun h' => h' h), if_neg (fun h' => h' h1)]
theorem sms_stay (s : ByteArray) (m a : Nat) {i : Nat} (h : (sms s m a i).f ≠ 0) : ∀ j, i ≤ j → sms s m a j = sms s m a i := by
  intro j hj
  induction j with
  | zero =>
    obtain rfl : i = 0 := by omega
    rfl
  | succ j ih =>
    by_cases hij : i = j + 1
    · subst hij
      rfl
    · have e := ih (by omega)
      show (sms s m a j).step _ = _
      rw [ss_stay (by rw [e]; exact h), e]
/-- How many samples a pixel has. -/
def spp (k : Nat) : Nat := if k = 3 then 3 else 1
def pxV (s : ByteArray) (k m a : Nat) : PX :=
  if k = 1 then ⟨(bitV s a).f, (bitV s a).p, (bitV s a).a, (bitV s a).v, (bitV s a).v, (bitV s a).v, (bitV s a).n⟩
  else ⟨(sms s m a (spp k)).f, (sms s m a (spp k)).p, (sms s m a (spp k)).a, (sms s m a (spp k)).vs.getD 0 0, (sms s m a (spp k)).vs.getD (if k = 3 then 1 else 0) 0, (sms s m a (spp k)).vs.getD (if k = 3 then 2 else 0) 0, (sms s m a (spp k)).n⟩

/-- The pixels so far: a fault's kind and place; the place behind, the pixels, the readings. -/
structure PS where
  f : Nat
  p : Nat
  a : Nat
  l : List (Nat × Nat × Nat)
  n : Nat
/-- One pixel more, told by o. -/
def PS.step (z : PS) (o : PX) : PS :=
  if z.f ≠ 0 then z else if o.f ≠ 0 then ⟨o.f, o.p, z.a, z.l, z.n + o.n⟩ else ⟨0, 0, o.a, z.l ++ [(o.r, o.g, o.b)], z.n + o.n⟩
def pxs (s : ByteArray) (k m a : Nat) : Nat → PS
  | 0 => ⟨0, 0, a, [], 0⟩
  | i + 1 => (pxs s k m a i).step (pxV s k m (pxs s k m a i).a)
theorem step_stay {z : PS} {o : PX} (h : z.f ≠ 0) : z.step o = z := by
  unfold PS.step
  rw [if_pos h]
theorem step_fault {z : PS} {o : PX} (h : z.f = 0) (h1 : o.f ≠ 0) : z.step o = ⟨o.f, o.p, z.a, z.l, z.n + o.n⟩ := by
  unfold PS.step
  rw [if_neg (fun h' => h' h), if_pos h1]
theorem step_yes {z : PS} {o : PX} (h : z.f = 0) (h1 : o.f = 0) : z.step o = ⟨0, 0, o.a, z.l ++ [(o.r, o.g, o.b)], z.n + o.n⟩ := by
  unfold PS.step
  rw [if_neg (fun h' => h' h), if_neg (fun h' => h' h1)]
/-- Once a fault is met it stays. -/
theorem pxs_stay (s : ByteArray) (k m a : Nat) {i : Nat} (h : (pxs s k m a i).f ≠ 0) : ∀ j, i ≤ j → pxs s k m a j = pxs s k m a i := by
  intro j hj
  induction j with
  | zero =>
    obtain rfl : i = 0 := by omega
    rfl
  | succ j ih =>
    by_cases hij : i = j + 1
    · subst hij
      rfl
    · have e := ih (by omega)
      show (pxs s k m a j).step _ = _
      rw [step_stay (by rw [e]; exact h), e]
theorem pxs_len (s : ByteArray) (k m a : Nat) : ∀ i, (pxs s k m a i).f = 0 → (pxs s k m a i).l.length = i
  | 0, _ => rfl
  | i + 1, h => by
    have hs : pxs s k m a (i + 1) = (pxs s k m a i).step (pxV s k m (pxs s k m a i).a) := rfl
    rw [hs] at h ⊢
    by_cases hz : (pxs s k m a i).f = 0
    · by_cases ho : (pxV s k m (pxs s k m a i).a).f = 0
      · rw [step_yes hz ho]
        show (_ ++ [_]).length = _
        rw [List.length_append, pxs_len s k m a i hz]
        rfl
      · rw [step_fault hz ho] at h
        exact absurd h ho
    · rw [step_stay hz] at h
      exact absurd h hz

/-- A pixel's cells. -/
def pc (x : Nat × Nat × Nat) : List Value := [.int .u8 (x.1 : Int), .int .u8 (x.2.1 : Int), .int .u8 (x.2.2 : Int), .int .u8 255]
def cells (l : List (Nat × Nat × Nat)) : List Value := l.flatMap pc
theorem cells_snoc (l : List (Nat × Nat × Nat)) (x : Nat × Nat × Nat) : cells (l ++ [x]) = cells l ++ pc x := by simp [cells, List.flatMap_append]

/-- The document's image, which is a fault. -/
theorem rimg_bad (x y : Int) (W : World) : Calls Tryz.prog 31 #[.int .i64 x, .int .i64 y] W
    fun e w' => e = .returned (.agg #[.int .i64 0, .int .i64 0, .slice none 0 0, .int .i64 x, .int .i64 y]) ∧ W.grownBy w' none := by
  go_enter Tryz.func31, Tryz.ntmps31
  go_wp2
  refine bodyPost_ret (v := .agg #[.int .i64 0, .int .i64 0, .slice none 0 0, .int .i64 x, .int .i64 y]) (by simp only [results, Tryz.results31]; go_simp) rfl ⟨rfl, World.grownBy_alloc _ _ _⟩
theorem rgray_calls (v : Int) (W : World) (h0 : 0 ≤ v) (h1 : v ≤ 255) : Calls Tryz.prog 32 #[.int .i64 v] W
    fun e w' => e = .returned (.agg #[.int .u8 v, .int .u8 v, .int .u8 v, .int .u8 255]) ∧ W.grownBy w' none := by
  go_enter Tryz.func32, Tryz.ntmps32
  go_wp2
  refine bodyPost_ret (v := .agg #[.int .u8 v, .int .u8 v, .int .u8 v, .int .u8 255]) (by simp only [results, Tryz.results32]; go_simp) rfl ⟨rfl, World.grownBy_alloc _ _ _⟩

end Go.Proofs.YtcfdippcobkbaaaGreat.Px
