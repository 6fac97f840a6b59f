/- Texts of one kind, one behind the other: PalW. -/
import Derived.Laws.AppendOwn
import Derived.WalkLawsBesides
import Derived.Test.YtnieeckdldpebaaGreatG19
/- Layer 10: the document's Read, walked (written by wip/gen/pal_rread.py). -/
namespace Go.Proofs.YtnieeckdldpebaaGreat.Pa
open Go.ChangeShapes Go.WideShapes Go.ChangeAt Go.RowKit
open Go.Proofs.YtnieeckdldpebaaGreat.Sc Go.Proofs.YtnieeckdldpebaaGreat.Le
set_option linter.unusedVariables false

theorem rowC : (Tryz.prog.info? 135).map (fun i => (i.zero, i.size, i.bytes)) = some (some (.agg #[.int .u8 0, .int .u8 0, .int .u8 0, .int .u8 0]), 4, 4) := by kernel_rfl
theorem undC : Tryz.prog.underlying 37 = some (.slice 135) := by kernel_rfl

/-- Colours, as cells. -/
def cellsOf (D : Nat → Nat → Int) : Nat → List Value
  | 0 => []
  | k + 1 => cellsOf D k ++ [.int .u8 (D k 0), .int .u8 (D k 1), .int .u8 (D k 2), .int .u8 (D k 3)]
theorem four_news {w : World} {a b c d : Value} : ∀ j u, [a, b, c, d][j]? = some u → (w.alloc (.cells #[a, b, c, d] 135)).cell? ((⟨w.heap.size, 0, none⟩ : Addr).add j) = some u := by
  intro j u hu
  rw [add_plain, Nat.zero_add, blk_cell blk_at j]
  simpa using hu
theorem four_one {a b c d : Int} : ∀ u ∈ [Value.int .u8 a, .int .u8 b, .int .u8 c, .int .u8 d], u.oneCell' = true := by
  intro u hu
  simp at hu
  rcases hu with rfl | rfl | rfl | rfl <;> rfl

theorem tail_at (s : ByteArray) (n : Nat) (h : n ≤ s.size) (w : World) :
    (Instr.slice 9 (.string s) (some (.int .i64 (n : Int))) none none).run Tryz.prog w = .ok (.string (s.extract n s.size)) w := by
  have ht' : Tryz.prog.underlying 9 = some .string := by kernel_rfl
  simp [Instr.slice, run_underlying ht', Instr.sliceBounds, run_sliceBound, Result.andThen, show (n : Int) ≤ s.size by omega]

theorem own_turned {w w' : World} {base : Nat} {e : TypeId} {sz n : Nat} {v : Value} {xs : List Value} {R : List Nat} (h : w.ownsRow base e sz v n xs) (t : Tn w w' R) (hr : ∀ k, v.ownBlock = some k → k ∉ R) : w'.ownsRow base e sz v n xs := by
  refine ⟨h.1, ?_⟩
  rcases h.2 with h2 | ⟨g, cap, cur, hv, hb, hg, h3⟩
  · exact .inl h2
  · exact .inr ⟨g, cap, cur, hv, hb, (t.block g (blk_lt hg) (hr g (by rw [hv]; rfl))).trans hg, h3⟩
theorem own_grown {w w' : World} {base : Nat} {e : TypeId} {sz n : Nat} {v : Value} {xs : List Value} (h : w.ownsRow base e sz v n xs) (g : w.grownBy w' none) : w'.ownsRow base e sz v n xs :=
  own_turned h (Tn.gb g (S := []) (by simp)) (by simp)

theorem gb_row {a b c : World} {r : Option Nat} (h : a.grownBy b none) (g : b.grownBy c r) (hr : ∀ k, r = some k → a.heap.size ≤ k) : a.grownBy c none :=
  ⟨g.os.trans h.os, g.tape.trans h.tape, g.output.trans h.output, Nat.le_trans h.size g.size,
    fun i hi _ => (g.block i (Nat.lt_of_lt_of_le hi h.size) (fun e => by have := hr i e.symm; omega)).trans (h.block i hi (by simp))⟩

/-- Behind the document's Read: K entries, in a row of its own. -/
def RReadPost (W : World) (T sz K : Nat) (s : ByteArray) (e : Ending) (w' : World) : Prop :=
  ∃ g cap, e = .returned (.slice (some ⟨g, 0, none⟩) K cap) ∧ w'.ownsRow W.heap.size 135 4 (.slice (some ⟨g, 0, none⟩) K cap) K (cellsOf (fun k => entAt T s (k * sz)) K) ∧ W.grownBy w' none

set_option maxRecDepth 100000 in
set_option maxHeartbeats 1000000 in
theorem rread_0 (s : ByteArray) (N : Nat) (K : Nat) (W : World) (hs : s.size ≤ 1000000) (hN : N ≤ 100000) (k1 : K ≤ N) (k2 : K * 2 ≤ s.size) (k3 : K = N ∨ s.size < K * 2 + 2) :
    Calls Tryz.prog 61 #[.string s, .int .i64 N, .int .i64 2] W (RReadPost W 0 2 K s) := by
  obtain ⟨i0, hi, hz0, hz1, hz2⟩ := info_parts rowC
  have HI0 := Lib.hid hi
  have HZ0 := Lib.hid hz0
  have HZ1 := Lib.hid hz1
  have HZ2 := Lib.hid hz2
  clear hi hz0 hz1 hz2
  have KS := Lib.hid (fun u => rsize_calls 2 u)
  have es : sizeV 2 = 2 := by decide
  simp only [es] at KS
  have K3 := Lib.hid k3
  have J0 := Lib.hid (show (W.alloc (.cells #[] 135)).ownsRow W.heap.size 135 4 (.slice (some ⟨W.heap.size, 0, none⟩) 0 0) 0 (cellsOf (fun k => entAt 0 s (k * 2)) 0) ∧ W.grownBy (W.alloc (.cells #[] 135)) none from
    ⟨World.ownsRow_made W #[] 0 (Nat.le_refl _) (by unfold maxLen; omega) (by simp), World.grownBy_alloc _ _ _⟩)
  clear k3 es
  go_enter Tryz.func61, Tryz.ntmps61
  go_wp2_with fail
  refine (KS.out _).mono ?_
  rintro e w' ⟨rfl, rfl⟩
  go_wp2_with fail
  go_loopg [7, 9] (N + 1) (fun q ov iv wr => ∃ (k : Nat) (o : Value), k ≤ K ∧ q = N + 1 - k ∧ iv = .int .i64 k ∧ o = ov ∧ (k = 0 → ∃ g, o = .slice (some ⟨g, 0, none⟩) 0 0) ∧ wr.ownsRow W.heap.size 135 4 o k (cellsOf (fun k => entAt 0 s (k * 2)) k) ∧ W.grownBy wr none)
  case atStart => exact ⟨0, _, by omega, rfl, rfl, rfl, fun _ => ⟨_, rfl⟩, J0.out⟩
  case round =>
    obtain ⟨k, o, hk, rfl, rfl, rfl, hz, I⟩ := hrel
    have HI := Lib.hid I
    have HO := Lib.hid hz
    clear I J0 hz
    by_cases hkK : k < K
    · have hkN : (k : Int) < N := by omega
      have hin : k * 2 + 2 ≤ s.size := by omega
      have hsl := fun u => tail_at s (k * 2) (by omega) u
      have ek : ((k * 2 : Nat) : Int) = (k : Int) * 2 := by omega
      simp only [ek] at hsl
      obtain ⟨z, hz⟩ : ∃ z, s.extract (k * 2) s.size = z := ⟨_, rfl⟩
      have hzs : z.size = s.size - k * 2 := by rw [← hz, ByteArray.size_extract]; omega
      simp only [hz] at hsl
      have KE : ∀ u, Calls Tryz.prog 105 #[.string z, .int .i64 2] u fun e w' => e = .returned (.agg #[.int .u8 (entAt 0 s (k * 2) 0), .int .u8 (entAt 0 s (k * 2) 1), .int .u8 (entAt 0 s (k * 2) 2), .int .u8 (entAt 0 s (k * 2) 3)]) ∧ u.grownBy w' none := fun u => rentry_two z _ _ u (by omega) (by omega) (bt_cut s z (k * 2) s.size 0 hz (by omega) (by omega)) (bt_cut s z (k * 2) s.size 1 hz (by omega) (by omega))
      have hcl : cellsOf (fun k => entAt 0 s (k * 2)) (k + 1) = cellsOf (fun k => entAt 0 s (k * 2)) k ++ [.int .u8 (entAt 0 s (k * 2) 0), .int .u8 (entAt 0 s (k * 2) 1), .int .u8 (entAt 0 s (k * 2) 2), .int .u8 (entAt 0 s (k * 2) 3)] := rfl
      obtain ⟨c0, f0⟩ : ∃ c, entAt 0 s (k * 2) 0 = c := ⟨_, rfl⟩
      obtain ⟨c1, f1⟩ : ∃ c, entAt 0 s (k * 2) 1 = c := ⟨_, rfl⟩
      obtain ⟨c2, f2⟩ : ∃ c, entAt 0 s (k * 2) 2 = c := ⟨_, rfl⟩
      obtain ⟨c3, f3⟩ : ∃ c, entAt 0 s (k * 2) 3 = c := ⟨_, rfl⟩
      simp only [f0, f1, f2, f3] at KE
      rw [f0, f1, f2, f3] at hcl
      have KE' := Lib.hid KE
      have HCL := Lib.hid hcl
      have t1 : (2 : Int) ≤ (s.size : Int) - (k : Int) * 2 := by omega
      have t2 : (k : Int) * 2 ≤ 1000000 := by omega
      have t3 : (0 : Int) ≤ (k : Int) * 2 := by omega
      clear KE hcl f0 f1 f2 f3 hz hzs ek
      go_wp2_with fail
      refine (KE'.out _).mono ?_
      rintro e w3 ⟨rfl, g3⟩
      have HR3 := Lib.hid (own_grown HI.out.1 g3)
      have HG3 := Lib.hid (gb_trans HI.out.2 g3)
      clear g3
      go_wp2_with (at_builtin; refine wpList_append_own _ rfl (.tmp 28) (.tmp 36) 37 rfl W.heap.size 135 i0 (.agg #[.int .u8 0, .int .u8 0, .int .u8 0, .int .u8 0]) 4 4 undC HI0.out HZ0.out HZ1.out HZ2.out rfl (by decide) _ k (cellsOf (fun k => entAt 0 s (k * 2)) k) rfl (HR3.out.alloc _) ⟨w3.heap.size, 0, none⟩ 1 1 [.int .u8 c0, .int .u8 c1, .int .u8 c2, .int .u8 c3] rfl rfl four_news four_one (by unfold maxLen; omega) (by omega) (by have := HG3.out.size; rw [size_alloc]; omega) ?_)
      intro o' w4 hown hgrow hnil
      rw [← HCL.out] at hown
      have HW := Lib.hid hown
      have HG4 := Lib.hid (gb_row (gb_trans HG3.out (World.grownBy_alloc w3 (.cells #[.int .u8 c0, .int .u8 c1, .int .u8 c2, .int .u8 c3] 135) none)) hgrow (fun y hy => (HR3.out.lt y hy).1))
      clear hown hgrow hnil
      go_wp2
      go_roundg (N + 1 - (k + 1))
      case measure => omega
      case rel => exact ⟨k + 1, o', by omega, rfl, by go_num, rfl, fun h => by omega, HW.out, HG4.out⟩
    · obtain rfl : k = K := by omega
      obtain ⟨g, cap, ho⟩ : ∃ g cap, o = .slice (some ⟨g, 0, none⟩) k cap := by
        by_cases hk0 : k = 0
        · obtain ⟨g, hg⟩ := HO.out hk0
          exact ⟨g, 0, by rw [hg, hk0]⟩
        · rcases HI.out.1.2 with ⟨_, h⟩ | ⟨g, cap, _, h, _⟩
          · exact absurd h hk0
          · exact ⟨g, cap, h⟩
      subst ho
      have HF := Lib.hid (show RReadPost W 0 2 k s (.returned (.slice (some ⟨g, 0, none⟩) k cap)) wr from ⟨g, cap, rfl, HI.out.1, HI.out.2⟩)
      by_cases hkN : k = N
      · have d1 : decide ((k : Int) < N) = false := decide_eq_false (by omega)
        have d2 : (N : Int) ≤ k := by omega
        clear HI HO hkN
        go_wp2
        go_ret
        exact HF.out
      · have hout : s.size < k * 2 + 2 := by rcases K3.out with h | h; exact absurd h hkN; exact h
        have d1 : (k : Int) < N := by omega
        have t1 : (s.size : Int) - (k : Int) * 2 < 2 := by omega
        have t2 : (k : Int) * 2 ≤ 1000000 := by omega
        have t3 : (0 : Int) ≤ (k : Int) * 2 := by omega
        clear HI HO hkN
        go_wp2
        go_ret
        exact HF.out

set_option maxRecDepth 100000 in
set_option maxHeartbeats 1000000 in
theorem rread_1 (s : ByteArray) (N : Nat) (K : Nat) (W : World) (hs : s.size ≤ 1000000) (hN : N ≤ 100000) (k1 : K ≤ N) (k2 : K * 3 ≤ s.size) (k3 : K = N ∨ s.size < K * 3 + 3) :
    Calls Tryz.prog 61 #[.string s, .int .i64 N, .int .i64 3] W (RReadPost W 1 3 K s) := by
  obtain ⟨i0, hi, hz0, hz1, hz2⟩ := info_parts rowC
  have HI0 := Lib.hid hi
  have HZ0 := Lib.hid hz0
  have HZ1 := Lib.hid hz1
  have HZ2 := Lib.hid hz2
  clear hi hz0 hz1 hz2
  have KS := Lib.hid (fun u => rsize_calls 3 u)
  have es : sizeV 3 = 3 := by decide
  simp only [es] at KS
  have K3 := Lib.hid k3
  have J0 := Lib.hid (show (W.alloc (.cells #[] 135)).ownsRow W.heap.size 135 4 (.slice (some ⟨W.heap.size, 0, none⟩) 0 0) 0 (cellsOf (fun k => entAt 1 s (k * 3)) 0) ∧ W.grownBy (W.alloc (.cells #[] 135)) none from
    ⟨World.ownsRow_made W #[] 0 (Nat.le_refl _) (by unfold maxLen; omega) (by simp), World.grownBy_alloc _ _ _⟩)
  clear k3 es
  go_enter Tryz.func61, Tryz.ntmps61
  go_wp2_with fail
  refine (KS.out _).mono ?_
  rintro e w' ⟨rfl, rfl⟩
  go_wp2_with fail
  go_loopg [7, 9] (N + 1) (fun q ov iv wr => ∃ (k : Nat) (o : Value), k ≤ K ∧ q = N + 1 - k ∧ iv = .int .i64 k ∧ o = ov ∧ (k = 0 → ∃ g, o = .slice (some ⟨g, 0, none⟩) 0 0) ∧ wr.ownsRow W.heap.size 135 4 o k (cellsOf (fun k => entAt 1 s (k * 3)) k) ∧ W.grownBy wr none)
  case atStart => exact ⟨0, _, by omega, rfl, rfl, rfl, fun _ => ⟨_, rfl⟩, J0.out⟩
  case round =>
    obtain ⟨k, o, hk, rfl, rfl, rfl, hz, I⟩ := hrel
    have HI := Lib.hid I
    have HO := Lib.hid hz
    clear I J0 hz
    by_cases hkK : k < K
    · have hkN : (k : Int) < N := by omega
      have hin : k * 3 + 3 ≤ s.size := by omega
      have hsl := fun u => tail_at s (k * 3) (by omega) u
      have ek : ((k * 3 : Nat) : Int) = (k : Int) * 3 := by omega
      simp only [ek] at hsl
      obtain ⟨z, hz⟩ : ∃ z, s.extract (k * 3) s.size = z := ⟨_, rfl⟩
      have hzs : z.size = s.size - k * 3 := by rw [← hz, ByteArray.size_extract]; omega
      simp only [hz] at hsl
      have KE : ∀ u, Calls Tryz.prog 105 #[.string z, .int .i64 3] u fun e w' => e = .returned (.agg #[.int .u8 (entAt 1 s (k * 3) 0), .int .u8 (entAt 1 s (k * 3) 1), .int .u8 (entAt 1 s (k * 3) 2), .int .u8 (entAt 1 s (k * 3) 3)]) ∧ u.grownBy w' none := fun u => rentry_three z 3 _ _ _ u (.inl rfl) (by omega) (by omega) (bt_cut s z (k * 3) s.size 0 hz (by omega) (by omega)) (bt_cut s z (k * 3) s.size 1 hz (by omega) (by omega)) (bt_cut s z (k * 3) s.size 2 hz (by omega) (by omega))
      have hcl : cellsOf (fun k => entAt 1 s (k * 3)) (k + 1) = cellsOf (fun k => entAt 1 s (k * 3)) k ++ [.int .u8 (entAt 1 s (k * 3) 0), .int .u8 (entAt 1 s (k * 3) 1), .int .u8 (entAt 1 s (k * 3) 2), .int .u8 (entAt 1 s (k * 3) 3)] := rfl
      obtain ⟨c0, f0⟩ : ∃ c, entAt 1 s (k * 3) 0 = c := ⟨_, rfl⟩
      obtain ⟨c1, f1⟩ : ∃ c, entAt 1 s (k * 3) 1 = c := ⟨_, rfl⟩
      obtain ⟨c2, f2⟩ : ∃ c, entAt 1 s (k * 3) 2 = c := ⟨_, rfl⟩
      obtain ⟨c3, f3⟩ : ∃ c, entAt 1 s (k * 3) 3 = c := ⟨_, rfl⟩
      simp only [f0, f1, f2, f3] at KE
      rw [f0, f1, f2, f3] at hcl
      have KE' := Lib.hid KE
      have HCL := Lib.hid hcl
      have t1 : (3 : Int) ≤ (s.size : Int) - (k : Int) * 3 := by omega
      have t2 : (k : Int) * 3 ≤ 1000000 := by omega
      have t3 : (0 : Int) ≤ (k : Int) * 3 := by omega
      clear KE hcl f0 f1 f2 f3 hz hzs ek
      go_wp2_with fail
      refine (KE'.out _).mono ?_
      rintro e w3 ⟨rfl, g3⟩
      have HR3 := Lib.hid (own_grown HI.out.1 g3)
      have HG3 := Lib.hid (gb_trans HI.out.2 g3)
      clear g3
      go_wp2_with (at_builtin; refine wpList_append_own _ rfl (.tmp 28) (.tmp 36) 37 rfl W.heap.size 135 i0 (.agg #[.int .u8 0, .int .u8 0, .int .u8 0, .int .u8 0]) 4 4 undC HI0.out HZ0.out HZ1.out HZ2.out rfl (by decide) _ k (cellsOf (fun k => entAt 1 s (k * 3)) k) rfl (HR3.out.alloc _) ⟨w3.heap.size, 0, none⟩ 1 1 [.int .u8 c0, .int .u8 c1, .int .u8 c2, .int .u8 c3] rfl rfl four_news four_one (by unfold maxLen; omega) (by omega) (by have := HG3.out.size; rw [size_alloc]; omega) ?_)
      intro o' w4 hown hgrow hnil
      rw [← HCL.out] at hown
      have HW := Lib.hid hown
      have HG4 := Lib.hid (gb_row (gb_trans HG3.out (World.grownBy_alloc w3 (.cells #[.int .u8 c0, .int .u8 c1, .int .u8 c2, .int .u8 c3] 135) none)) hgrow (fun y hy => (HR3.out.lt y hy).1))
      clear hown hgrow hnil
      go_wp2
      go_roundg (N + 1 - (k + 1))
      case measure => omega
      case rel => exact ⟨k + 1, o', by omega, rfl, by go_num, rfl, fun h => by omega, HW.out, HG4.out⟩
    · obtain rfl : k = K := by omega
      obtain ⟨g, cap, ho⟩ : ∃ g cap, o = .slice (some ⟨g, 0, none⟩) k cap := by
        by_cases hk0 : k = 0
        · obtain ⟨g, hg⟩ := HO.out hk0
          exact ⟨g, 0, by rw [hg, hk0]⟩
        · rcases HI.out.1.2 with ⟨_, h⟩ | ⟨g, cap, _, h, _⟩
          · exact absurd h hk0
          · exact ⟨g, cap, h⟩
      subst ho
      have HF := Lib.hid (show RReadPost W 1 3 k s (.returned (.slice (some ⟨g, 0, none⟩) k cap)) wr from ⟨g, cap, rfl, HI.out.1, HI.out.2⟩)
      by_cases hkN : k = N
      · have d1 : decide ((k : Int) < N) = false := decide_eq_false (by omega)
        have d2 : (N : Int) ≤ k := by omega
        clear HI HO hkN
        go_wp2
        go_ret
        exact HF.out
      · have hout : s.size < k * 3 + 3 := by rcases K3.out with h | h; exact absurd h hkN; exact h
        have d1 : (k : Int) < N := by omega
        have t1 : (s.size : Int) - (k : Int) * 3 < 3 := by omega
        have t2 : (k : Int) * 3 ≤ 1000000 := by omega
        have t3 : (0 : Int) ≤ (k : Int) * 3 := by omega
        clear HI HO hkN
        go_wp2
        go_ret
        exact HF.out

set_option maxRecDepth 100000 in
set_option maxHeartbeats 1000000 in
theorem rread_3 (s : ByteArray) (N : Nat) (K : Nat) (W : World) (hs : s.size ≤ 1000000) (hN : N ≤ 100000) (k1 : K ≤ N) (k2 : K * 4 ≤ s.size) (k3 : K = N ∨ s.size < K * 4 + 4) :
    Calls Tryz.prog 61 #[.string s, .int .i64 N, .int .i64 5] W (RReadPost W 3 4 K s) := by
  obtain ⟨i0, hi, hz0, hz1, hz2⟩ := info_parts rowC
  have HI0 := Lib.hid hi
  have HZ0 := Lib.hid hz0
  have HZ1 := Lib.hid hz1
  have HZ2 := Lib.hid hz2
  clear hi hz0 hz1 hz2
  have KS := Lib.hid (fun u => rsize_calls 5 u)
  have es : sizeV 5 = 4 := by decide
  simp only [es] at KS
  have K3 := Lib.hid k3
  have J0 := Lib.hid (show (W.alloc (.cells #[] 135)).ownsRow W.heap.size 135 4 (.slice (some ⟨W.heap.size, 0, none⟩) 0 0) 0 (cellsOf (fun k => entAt 3 s (k * 4)) 0) ∧ W.grownBy (W.alloc (.cells #[] 135)) none from
    ⟨World.ownsRow_made W #[] 0 (Nat.le_refl _) (by unfold maxLen; omega) (by simp), World.grownBy_alloc _ _ _⟩)
  clear k3 es
  go_enter Tryz.func61, Tryz.ntmps61
  go_wp2_with fail
  refine (KS.out _).mono ?_
  rintro e w' ⟨rfl, rfl⟩
  go_wp2_with fail
  go_loopg [7, 9] (N + 1) (fun q ov iv wr => ∃ (k : Nat) (o : Value), k ≤ K ∧ q = N + 1 - k ∧ iv = .int .i64 k ∧ o = ov ∧ (k = 0 → ∃ g, o = .slice (some ⟨g, 0, none⟩) 0 0) ∧ wr.ownsRow W.heap.size 135 4 o k (cellsOf (fun k => entAt 3 s (k * 4)) k) ∧ W.grownBy wr none)
  case atStart => exact ⟨0, _, by omega, rfl, rfl, rfl, fun _ => ⟨_, rfl⟩, J0.out⟩
  case round =>
    obtain ⟨k, o, hk, rfl, rfl, rfl, hz, I⟩ := hrel
    have HI := Lib.hid I
    have HO := Lib.hid hz
    clear I J0 hz
    by_cases hkK : k < K
    · have hkN : (k : Int) < N := by omega
      have hin : k * 4 + 4 ≤ s.size := by omega
      have hsl := fun u => tail_at s (k * 4) (by omega) u
      have ek : ((k * 4 : Nat) : Int) = (k : Int) * 4 := by omega
      simp only [ek] at hsl
      obtain ⟨z, hz⟩ : ∃ z, s.extract (k * 4) s.size = z := ⟨_, rfl⟩
      have hzs : z.size = s.size - k * 4 := by rw [← hz, ByteArray.size_extract]; omega
      simp only [hz] at hsl
      have KE : ∀ u, Calls Tryz.prog 105 #[.string z, .int .i64 5] u fun e w' => e = .returned (.agg #[.int .u8 (entAt 3 s (k * 4) 0), .int .u8 (entAt 3 s (k * 4) 1), .int .u8 (entAt 3 s (k * 4) 2), .int .u8 (entAt 3 s (k * 4) 3)]) ∧ u.grownBy w' none := fun u => rentry_five z _ _ _ _ u (by omega) (by omega) (bt_cut s z (k * 4) s.size 0 hz (by omega) (by omega)) (bt_cut s z (k * 4) s.size 1 hz (by omega) (by omega)) (bt_cut s z (k * 4) s.size 2 hz (by omega) (by omega)) (bt_cut s z (k * 4) s.size 3 hz (by omega) (by omega))
      have hcl : cellsOf (fun k => entAt 3 s (k * 4)) (k + 1) = cellsOf (fun k => entAt 3 s (k * 4)) k ++ [.int .u8 (entAt 3 s (k * 4) 0), .int .u8 (entAt 3 s (k * 4) 1), .int .u8 (entAt 3 s (k * 4) 2), .int .u8 (entAt 3 s (k * 4) 3)] := rfl
      obtain ⟨c0, f0⟩ : ∃ c, entAt 3 s (k * 4) 0 = c := ⟨_, rfl⟩
      obtain ⟨c1, f1⟩ : ∃ c, entAt 3 s (k * 4) 1 = c := ⟨_, rfl⟩
      obtain ⟨c2, f2⟩ : ∃ c, entAt 3 s (k * 4) 2 = c := ⟨_, rfl⟩
      obtain ⟨c3, f3⟩ : ∃ c, entAt 3 s (k * 4) 3 = c := ⟨_, rfl⟩
      simp only [f0, f1, f2, f3] at KE
      rw [f0, f1, f2, f3] at hcl
      have KE' := Lib.hid KE
      have HCL := Lib.hid hcl
      have t1 : (4 : Int) ≤ (s.size : Int) - (k : Int) * 4 := by omega
      have t2 : (k : Int) * 4 ≤ 1000000 := by omega
      have t3 : (0 : Int) ≤ (k : Int) * 4 := by omega
      clear KE hcl f0 f1 f2 f3 hz hzs ek
      go_wp2_with fail
      refine (KE'.out _).mono ?_
      rintro e w3 ⟨rfl, g3⟩
      have HR3 := Lib.hid (own_grown HI.out.1 g3)
      have HG3 := Lib.hid (gb_trans HI.out.2 g3)
      clear g3
      go_wp2_with (at_builtin; refine wpList_append_own _ rfl (.tmp 28) (.tmp 36) 37 rfl W.heap.size 135 i0 (.agg #[.int .u8 0, .int .u8 0, .int .u8 0, .int .u8 0]) 4 4 undC HI0.out HZ0.out HZ1.out HZ2.out rfl (by decide) _ k (cellsOf (fun k => entAt 3 s (k * 4)) k) rfl (HR3.out.alloc _) ⟨w3.heap.size, 0, none⟩ 1 1 [.int .u8 c0, .int .u8 c1, .int .u8 c2, .int .u8 c3] rfl rfl four_news four_one (by unfold maxLen; omega) (by omega) (by have := HG3.out.size; rw [size_alloc]; omega) ?_)
      intro o' w4 hown hgrow hnil
      rw [← HCL.out] at hown
      have HW := Lib.hid hown
      have HG4 := Lib.hid (gb_row (gb_trans HG3.out (World.grownBy_alloc w3 (.cells #[.int .u8 c0, .int .u8 c1, .int .u8 c2, .int .u8 c3] 135) none)) hgrow (fun y hy => (HR3.out.lt y hy).1))
      clear hown hgrow hnil
      go_wp2
      go_roundg (N + 1 - (k + 1))
      case measure => omega
      case rel => exact ⟨k + 1, o', by omega, rfl, by go_num, rfl, fun h => by omega, HW.out, HG4.out⟩
    · obtain rfl : k = K := by omega
      obtain ⟨g, cap, ho⟩ : ∃ g cap, o = .slice (some ⟨g, 0, none⟩) k cap := by
        by_cases hk0 : k = 0
        · obtain ⟨g, hg⟩ := HO.out hk0
          exact ⟨g, 0, by rw [hg, hk0]⟩
        · rcases HI.out.1.2 with ⟨_, h⟩ | ⟨g, cap, _, h, _⟩
          · exact absurd h hk0
          · exact ⟨g, cap, h⟩
      subst ho
      have HF := Lib.hid (show RReadPost W 3 4 k s (.returned (.slice (some ⟨g, 0, none⟩) k cap)) wr from ⟨g, cap, rfl, HI.out.1, HI.out.2⟩)
      by_cases hkN : k = N
      · have d1 : decide ((k : Int) < N) = false := decide_eq_false (by omega)
        have d2 : (N : Int) ≤ k := by omega
        clear HI HO hkN
        go_wp2
        go_ret
        exact HF.out
      · have hout : s.size < k * 4 + 4 := by rcases K3.out with h | h; exact absurd h hkN; exact h
        have d1 : (k : Int) < N := by omega
        have t1 : (s.size : Int) - (k : Int) * 4 < 4 := by omega
        have t2 : (k : Int) * 4 ≤ 1000000 := by omega
        have t3 : (0 : Int) ≤ (k : Int) * 4 := by omega
        clear HI HO hkN
        go_wp2
        go_ret
        exact HF.out

end Go.Proofs.YtnieeckdldpebaaGreat.Pa
