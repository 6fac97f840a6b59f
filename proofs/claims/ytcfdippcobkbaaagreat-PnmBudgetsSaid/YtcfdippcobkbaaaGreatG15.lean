/- Texts of one kind, one behind the other: RdA, Pix1, Pxt1, Pxt2. -/
import Derived.Deep.RegionHeld3
import Derived.Test.YtcfdippcobkbaaaGreatG10
import Derived.Test.YtcfdippcobkbaaaGreatG14
import Derived.Test.YtcfdippcobkbaaaGreatG16
/- Pixels that are read one behind the other, as plain functions; a raster's bytes. -/
namespace Go.Proofs.YtcfdippcobkbaaaGreat.Px
open Go.ChangeShapes Go.WideShapes Go.ChangeAt Go.RowKit
open Go.Proofs.YtcfdippcobkbaaaGreat.Le Go.Proofs.YtcfdippcobkbaaaGreat.Tk Go.Proofs.YtcfdippcobkbaaaGreat.Sc Go.Proofs.YtcfdippcobkbaaaGreat.Sr Go.Proofs.YtcfdippcobkbaaaGreat.Bu Go.Proofs.YtcfdippcobkbaaaGreat.Ra
set_option linter.unusedVariables false

/-- The pixels so far, each told by its number and the place ahead of it. -/
def fz (P : Nat → Nat → PX) (a0 : Nat) : Nat → PS
  | 0 => ⟨0, 0, a0, [], 0⟩
  | i + 1 => (fz P a0 i).step (P i (fz P a0 i).a)
section
variable {P : Nat → Nat → PX} {a0 : Nat}
theorem fz_stay {i : Nat} (h : (fz P a0 i).f ≠ 0) : ∀ j, i ≤ j → fz P a0 j = fz P a0 i := by
  intro j hj
  induction j with
  | zero =>
    obtain rfl : i = 0 := by omega
    rfl
  | succ j ih =>
    by_cases hij : i = j + 1
    · subst hij
      rfl
    · have e := ih (by omega)
      show (fz P a0 j).step _ = _
      rw [step_stay (by rw [e]; exact h), e]
theorem fz_back {i j : Nat} (h : (fz P a0 j).f = 0) (hij : i ≤ j) : (fz P a0 i).f = 0 := by
  by_cases h1 : (fz P a0 i).f = 0
  · exact h1
  · rw [fz_stay h1 j hij] at h
    exact absurd h h1
theorem fz_succ (i : Nat) : fz P a0 (i + 1) = (fz P a0 i).step (P i (fz P a0 i).a) := rfl
theorem fz_yes {i : Nat} (h : (fz P a0 i).f = 0) (h1 : (P i (fz P a0 i).a).f = 0) :
    fz P a0 (i + 1) = ⟨0, 0, (P i (fz P a0 i).a).a, (fz P a0 i).l ++ [((P i (fz P a0 i).a).r, (P i (fz P a0 i).a).g, (P i (fz P a0 i).a).b)], (fz P a0 i).n + (P i (fz P a0 i).a).n⟩ := by
  rw [fz_succ, step_yes h h1]
theorem fz_fault {i : Nat} (h : (fz P a0 i).f = 0) (h1 : (P i (fz P a0 i).a).f ≠ 0) :
    fz P a0 (i + 1) = ⟨(P i (fz P a0 i).a).f, (P i (fz P a0 i).a).p, (fz P a0 i).a, (fz P a0 i).l, (fz P a0 i).n + (P i (fz P a0 i).a).n⟩ := by
  rw [fz_succ, step_fault h h1]
theorem fz_len : ∀ i, (fz P a0 i).f = 0 → (fz P a0 i).l.length = i
  | 0, _ => rfl
  | i + 1, h => by
    have h0 := fz_back h (Nat.le_succ i)
    by_cases ho : (P i (fz P a0 i).a).f = 0
    · rw [fz_yes h0 ho]
      show (_ ++ [_]).length = _
      rw [List.length_append, fz_len i h0]
      rfl
    · rw [fz_fault h0 ho] at h
      exact absurd h ho
theorem fz_n1 (i : Nat) : (fz P a0 i).n ≤ (fz P a0 (i + 1)).n := by
  rw [fz_succ]
  unfold PS.step
  split
  · exact Nat.le_refl _
  · split
    · exact Nat.le_add_right _ _
    · exact Nat.le_add_right _ _
theorem fz_n {i : Nat} : ∀ j, i ≤ j → (fz P a0 i).n ≤ (fz P a0 j).n := by
  intro j hj
  induction j with
  | zero =>
    obtain rfl : i = 0 := by omega
    exact Nat.le_refl _
  | succ j ih =>
    by_cases hij : i = j + 1
    · subst hij
      exact Nat.le_refl _
    · exact Nat.le_trans (ih (by omega)) (fz_n1 j)
theorem fz_next {i N : Nat} (h : (fz P a0 i).f = 0) (hi : i < N) : (fz P a0 i).n + (P i (fz P a0 i).a).n ≤ (fz P a0 N).n := by
  refine Nat.le_trans (Nat.le_of_eq ?_) (fz_n N hi)
  by_cases ho : (P i (fz P a0 i).a).f = 0
  · rw [fz_yes h ho]
  · rw [fz_fault h ho]
/-- The readings, if each pixel has at most so many. -/
theorem fz_most {K : Nat} (hK : ∀ i a, (P i a).n ≤ K) : ∀ i, (fz P a0 i).n ≤ K * i
  | 0 => Nat.le_refl _
  | i + 1 => by
    have h := fz_most hK i
    have h1 := hK i (fz P a0 i).a
    rw [fz_succ, Nat.mul_succ]
    unfold PS.step
    split
    · omega
    · split
      · show (fz P a0 i).n + _ ≤ _
        omega
      · show (fz P a0 i).n + _ ≤ _
        omega
end

/-- A pixel's bytes; a raster's of which the pixels l are laid. -/
def pb (x : Nat × Nat × Nat) : List UInt8 := [UInt8.ofNat x.1, UInt8.ofNat x.2.1, UInt8.ofNat x.2.2, 255]
def pbs (l : List (Nat × Nat × Nat)) : List UInt8 := l.flatMap pb
theorem pbs_snoc (l : List (Nat × Nat × Nat)) (x : Nat × Nat × Nat) : pbs (l ++ [x]) = pbs l ++ pb x := by simp [pbs, List.flatMap_append]
theorem pbs_len : ∀ l : List (Nat × Nat × Nat), (pbs l).length = 4 * l.length
  | [] => rfl
  | x :: l => by
    have h := pbs_len l
    show (pb x ++ pbs l).length = _
    rw [List.length_append, h, List.length_cons]
    show 4 + _ = _
    omega
def rb (l : List (Nat × Nat × Nat)) (N : Nat) : ByteArray := ⟨(pbs l ++ List.replicate (4 * (N - l.length)) 0).toArray⟩
theorem rb_list (l : List (Nat × Nat × Nat)) (N : Nat) : (rb l N).data.toList = pbs l ++ List.replicate (4 * (N - l.length)) 0 := rfl
theorem rb_nil (N : Nat) : rb [] N = rep 0 (4 * N) := rfl
theorem rb_size (l : List (Nat × Nat × Nat)) (N : Nat) (h : l.length ≤ N) : (rb l N).size = 4 * N := by
  rw [Lib.size_eq, rb_list, List.length_append, pbs_len, List.length_replicate]
  omega
theorem rb_full (l : List (Nat × Nat × Nat)) : rb l l.length = ⟨(pbs l).toArray⟩ := by
  unfold rb
  rw [Nat.sub_self, Nat.mul_zero]
  simp
theorem rb_put (l : List (Nat × Nat × Nat)) (x : Nat × Nat × Nat) (N : Nat) (h : l.length < N) :
    putS (rb l N) (four (UInt8.ofNat x.1) (UInt8.ofNat x.2.1) (UInt8.ofNat x.2.2) 255) (4 * l.length) = rb (l ++ [x]) N := by
  have e : (putS (rb l N) (four (UInt8.ofNat x.1) (UInt8.ofNat x.2.1) (UInt8.ofNat x.2.2) 255) (4 * l.length)).data.toList = (rb (l ++ [x]) N).data.toList := by
    rw [putS_list, rb_list, rb_list, pbs_snoc, four_size]
    have h1 : 4 * l.length = (pbs l).length := (pbs_len l).symm
    rw [List.take_append_of_le_length (by omega), List.take_of_length_le (by omega), List.drop_append, List.drop_eq_nil_of_le (by omega), List.nil_append, List.drop_replicate]
    rw [List.length_append, show 4 * (N - l.length) - (4 * l.length + 4 - (pbs l).length) = 4 * (N - (l.length + [x].length)) from by
      show _ = 4 * (N - (l.length + 1))
      omega]
    rfl
  have h2 : ∀ a b : ByteArray, a.data.toList = b.data.toList → a = b := by
    intro a b hab
    cases a
    cases b
    congr 1
    exact Array.ext' hab
  exact h2 _ _ e

end Go.Proofs.YtcfdippcobkbaaaGreat.Px

/- Package pnmpix: faults, colours, kinds. -/
namespace Go.Proofs.YtcfdippcobkbaaaGreat.Px
open Go.ChangeShapes Go.WideShapes Go.ChangeAt Go.RowKit
open Go.Proofs.YtcfdippcobkbaaaGreat.Le Go.Proofs.YtcfdippcobkbaaaGreat.Tk Go.Proofs.YtcfdippcobkbaaaGreat.Sc Go.Proofs.YtcfdippcobkbaaaGreat.Sr Go.Proofs.YtcfdippcobkbaaaGreat.Ph
set_option linter.unusedVariables false

theorem xfault_calls (x y : Int) (W : World) : Calls Tryz.prog 91 #[.int .i64 x, .int .i64 y] W fun e w' => e = .returned (.agg #[.int .i64 x, .int .i64 3, .int .i64 y]) ∧ W.grownBy w' none := by
  go_enter Tryz.func91, Tryz.ntmps91
  go_wp2
  refine bodyPost_ret (v := .agg #[.int .i64 x, .int .i64 3, .int .i64 y]) (by simp only [results, Tryz.results91]; go_simp) rfl ⟨rfl, World.grownBy_alloc _ _ _⟩

theorem gb_own3 {a b : World} {k : Nat} {v0 v1 v2 : Value} (h : a.grownBy b none) (hk : a.heap.size ≤ k) : a.grownBy (((b.setCell ⟨k, 0, none⟩ v0).setCell ⟨k, 1, none⟩ v1).setCell ⟨k, 2, none⟩ v2) none :=
  gb_own (gb_own (gb_own h hk (gb_set _ _ _ _)) hk (gb_set _ _ _ _)) hk (gb_set _ _ _ _)

theorem xmal_calls (y : Int) (W : World) : Calls Tryz.prog 103 #[.int .i64 y] W fun e w' => e = .returned (.agg #[.int .i64 2, .int .i64 3, .int .i64 y]) ∧ W.grownBy w' none := by
  have KF := Lib.hid (fun u => xfault_calls 2 y u)
  have g0 := Lib.hid (World.grownBy_alloc W (.cells #[.int .i64 0, .int .i64 0, .int .i64 0] 34) none)
  have F0 := Lib.hid (Fl.new W)
  go_enter Tryz.func103, Tryz.ntmps103
  go_wp2_with fail
  refine (KF.out _).mono ?_
  rintro e w1 ⟨rfl, g1⟩
  have F1 : Fl W.heap.size 0 0 0 w1 := F0.out.turned (Tn.gb g1 (S := []) (by simp)) (by simp)
  have q0 := F1.c0
  have q1 := F1.c1
  have q2 := F1.c2
  have f0 := F1.free 0
  have f1 := F1.free 1
  have f2 := F1.free 2
  have G1 := Lib.hid (gb_trans g0.out g1)
  clear g1 F1
  go_wp2
  refine bodyPost_ret (v := .agg #[.int .i64 2, .int .i64 3, .int .i64 y]) (by simp only [results, Tryz.results103]; go_simp) rfl ⟨rfl, gb_own3 G1.out (Nat.le_refl _)⟩

theorem xcolor_calls (r g b : Int) (W : World) : Calls Tryz.prog 123 #[.int .u8 r, .int .u8 g, .int .u8 b] W fun e w' => e = .returned (.agg #[.int .u8 r, .int .u8 g, .int .u8 b, .int .u8 255]) ∧ W.grownBy w' none := by
  go_enter Tryz.func123, Tryz.ntmps123
  go_wp2
  refine bodyPost_ret (v := .agg #[.int .u8 r, .int .u8 g, .int .u8 b, .int .u8 255]) (by simp only [results, Tryz.results123]; go_simp) rfl ⟨rfl, World.grownBy_alloc _ _ _⟩

theorem xbitmap_calls (x : Int) (W : World) : Calls Tryz.prog 69 #[.int .i64 x] W fun e w' => e = .returned (.bool (orB 1 4 x)) ∧ W = w' := by
  rcases or_cases 1 4 x with ⟨d1, e⟩ | ⟨d1, d2, e⟩ | ⟨d1, d2, e⟩
  all_goals
    rw [e]
    clear e
    go_enter Tryz.func69, Tryz.ntmps69
    go_wp2
    go_ret
    exact ⟨rfl, rfl⟩

/-- Block r is a colour. -/
def Co (r : Nat) (a b c d : Int) (w : World) : Prop := w.heap[r]? = some (.cells #[.int .u8 a, .int .u8 b, .int .u8 c, .int .u8 d] 60 (0, 0))
section
variable {r : Nat} {a b c d : Int} {w w' : World}
theorem Co.c0 (h : Co r a b c d w) : w.cell? ⟨r, 0, none⟩ = some (.int .u8 a) := blk_cell h 0
theorem Co.c1 (h : Co r a b c d w) : w.cell? ⟨r, 1, none⟩ = some (.int .u8 b) := blk_cell h 1
theorem Co.c2 (h : Co r a b c d w) : w.cell? ⟨r, 2, none⟩ = some (.int .u8 c) := blk_cell h 2
theorem Co.c3 (h : Co r a b c d w) : w.cell? ⟨r, 3, none⟩ = some (.int .u8 d) := blk_cell h 3
theorem Co.free (h : Co r a b c d w) (o : Nat) : w.frozen? ⟨r, o, none⟩ = false := blk_free h o
theorem Co.lt (h : Co r a b c d w) : r < w.heap.size := blk_lt h
theorem Co.turned {S : List Nat} (h : Co r a b c d w) (t : Tn w w' S) (h1 : r ∉ S) : Co r a b c d w' := (t.block r h.lt h1).trans h
theorem Co.al (h : Co r a b c d w) (o : Obj) : Co r a b c d (w.alloc o) := blk_al h o
end
theorem gb_own4 {a b : World} {k : Nat} {v0 v1 v2 v3 : Value} (h : a.grownBy b none) (hk : a.heap.size ≤ k) : a.grownBy ((((b.setCell ⟨k, 0, none⟩ v0).setCell ⟨k, 1, none⟩ v1).setCell ⟨k, 2, none⟩ v2).setCell ⟨k, 3, none⟩ v3) none :=
  gb_own (gb_own (gb_own (gb_own h hk (gb_set _ _ _ _)) hk (gb_set _ _ _ _)) hk (gb_set _ _ _ _)) hk (gb_set _ _ _ _)

theorem xgrey_calls (v : Int) (W : World) : Calls Tryz.prog 124 #[.int .u8 v] W fun e w' => e = .returned (.agg #[.int .u8 v, .int .u8 v, .int .u8 v, .int .u8 255]) ∧ W.grownBy w' none := by
  have KF := Lib.hid (fun u => xcolor_calls v v v u)
  have g0 := Lib.hid (World.grownBy_alloc W (.cells #[.int .u8 0, .int .u8 0, .int .u8 0, .int .u8 0] 60) none)
  have F00 : Co W.heap.size 0 0 0 0 (W.alloc (.cells #[.int .u8 0, .int .u8 0, .int .u8 0, .int .u8 0] 60)) := blk_at
  have F0 := Lib.hid F00
  clear F00
  go_enter Tryz.func124, Tryz.ntmps124
  go_wp2_with fail
  refine (KF.out _).mono ?_
  rintro e w1 ⟨rfl, g1⟩
  have F1 : Co W.heap.size 0 0 0 0 w1 := F0.out.turned (Tn.gb g1 (S := []) (by simp)) (by simp)
  have q0 := F1.c0
  have q1 := F1.c1
  have q2 := F1.c2
  have q3 := F1.c3
  have f0 := F1.free 0
  have f1 := F1.free 1
  have f2 := F1.free 2
  have f3 := F1.free 3
  have G1 := Lib.hid (gb_trans g0.out g1)
  clear g1 F1
  go_wp2
  refine bodyPost_ret (v := .agg #[.int .u8 v, .int .u8 v, .int .u8 v, .int .u8 255]) (by simp only [results, Tryz.results124]; go_simp) rfl ⟨rfl, gb_own4 G1.out (Nat.le_refl _)⟩

/-- A bit's colour: v is 0 for 1, 255 for anything else. -/
theorem xink_calls (x v : Int) (W : World) (hv : (x == 1) = true ∧ v = 0 ∨ (x == 1) = false ∧ v = 255) : Calls Tryz.prog 101 #[.int .i64 x] W fun e w' => e = .returned (.agg #[.int .u8 v, .int .u8 v, .int .u8 v, .int .u8 255]) ∧ W.grownBy w' none := by
  have KF := Lib.hid (fun u => xgrey_calls v u)
  have g0 := Lib.hid (World.grownBy_alloc W (.cells #[.int .u8 0, .int .u8 0, .int .u8 0, .int .u8 0] 60) none)
  have F00 : Co W.heap.size 0 0 0 0 (W.alloc (.cells #[.int .u8 0, .int .u8 0, .int .u8 0, .int .u8 0] 60)) := blk_at
  have F0 := Lib.hid F00
  clear F00
  rcases hv with ⟨d0, rfl⟩ | ⟨d0, rfl⟩
  all_goals
    go_enter Tryz.func101, Tryz.ntmps101
    go_wp2_with fail
    refine (KF.out _).mono ?_
    rintro e w1 ⟨rfl, g1⟩
    have F1 : Co W.heap.size 0 0 0 0 w1 := F0.out.turned (Tn.gb g1 (S := []) (by simp)) (by simp)
    have q0 := F1.c0
    have q1 := F1.c1
    have q2 := F1.c2
    have q3 := F1.c3
    have f0 := F1.free 0
    have f1 := F1.free 1
    have f2 := F1.free 2
    have f3 := F1.free 3
    have G1 := Lib.hid (gb_trans g0.out g1)
    clear g1 F1
    go_wp2
    refine bodyPost_ret (v := .agg #[.int .u8 _, .int .u8 _, .int .u8 _, .int .u8 255]) (by simp only [results, Tryz.results101]; go_simp) rfl ⟨rfl, gb_own4 G1.out (Nat.le_refl _)⟩

end Go.Proofs.YtcfdippcobkbaaaGreat.Px

/- How a reading of pixels ends; the next sample of text. -/
namespace Go.Proofs.YtcfdippcobkbaaaGreat.Px
open Go.ChangeShapes Go.WideShapes Go.ChangeAt Go.RowKit
open Go.Proofs.YtcfdippcobkbaaaGreat.Le Go.Proofs.YtcfdippcobkbaaaGreat.Tk Go.Proofs.YtcfdippcobkbaaaGreat.Sc Go.Proofs.YtcfdippcobkbaaaGreat.Sr Go.Proofs.YtcfdippcobkbaaaGreat.Ph
set_option linter.unusedVariables false

/-- A reading of n steps that tells the fault f, at p (f 0: none), ends badly: with its fault, or Spent; the source is at q then, the ledger's state y. -/
def BD (s : ByteArray) (x : St) (f p n : Nat) (k g a : Int) (q : Nat) (y : St) : Prop :=
  q ≤ s.size ∧ ((f ≠ 0 ∧ k = f ∧ g = 3 ∧ a = p ∧ y = stp x n) ∨ (x.s < x.st + (n : Int) ∧ k = 4 ∧ g = 3 ∧ a = q ∧ y = spent x))
theorem BD.kne {s : ByteArray} {x : St} {f p n : Nat} {k g a : Int} {q : Nat} {y : St} (h : BD s x f p n k g a q y) : k ≠ 0 := by
  obtain ⟨_, ⟨h1, h2, _⟩ | ⟨_, h2, _⟩⟩ := h <;> omega
theorem BD.lift {s : ByteArray} {x : St} {f p n m f' p' n' : Nat} {k g a : Int} {q : Nat} {y : St} (h : BD s (stp x m) f p n k g a q y) (h1 : f ≠ 0 → f' = f ∧ p' = p ∧ n' = m + n) (h2 : m + n ≤ n') : BD s x f' p' n' k g a q y := by
  obtain ⟨hq, ⟨e1, e2, e3, e4, e5⟩ | ⟨e1, e2, e3, e4, e5⟩⟩ := h
  · obtain ⟨rfl, rfl, rfl⟩ := h1 e1
    exact ⟨hq, .inl ⟨e1, e2, e3, e4, by rw [e5, stp_stp]⟩⟩
  · rw [stp_st, stp_s] at e1
    exact ⟨hq, .inr ⟨by omega, e2, e3, e4, e5⟩⟩

theorem BD.re {s : ByteArray} {x : St} {f p n f' p' n' : Nat} {k g a : Int} {q : Nat} {y : St} (h : BD s x f p n k g a q y) (h1 : f ≠ 0 → f' = f ∧ p' = p) (h2 : n' = n) : BD s x f' p' n' k g a q y := by
  subst h2
  obtain ⟨hq, ⟨e1, e2, e3, e4, e5⟩ | e⟩ := h
  · obtain ⟨rfl, rfl⟩ := h1 e1
    exact ⟨hq, .inl ⟨e1, e2, e3, e4, e5⟩⟩
  · exact ⟨hq, .inr e⟩
theorem smp_n (s : ByteArray) (m a : Nat) : (smpV s m a).n = numN s a := by
  unfold smpV
  split
  · rfl
  · split <;> rfl
theorem smp_f (s : ByteArray) (m a : Nat) (h : (gotV s a).kind ≠ 0) : (smpV s m a).f = (gotV s a).kind ∧ (smpV s m a).p = (gotV s a).place := by
  unfold smpV
  rw [if_pos h]
  exact ⟨rfl, rfl⟩

/-- Behind a sample. -/
def QP (W : World) (c l : Nat) (s : ByteArray) (x : St) (o : SP) (e : Ending) (w' : World) : Prop :=
  Tn W w' [c, l] ∧ ((o.f = 0 ∧ o.v ≤ 255 ∧ e = .returned (.tuple #[.int .u8 (o.v : Int), okF]) ∧ Rd c l s o.a (stp x o.n) w') ∨
    (∃ (k g a : Int) (q : Nat) (y : St), BD s x o.f o.p o.n k g a q y ∧ e = .returned (.tuple #[.int .u8 0, .agg #[.int .i64 k, .int .i64 g, .int .i64 a]]) ∧ Rd c l s q y w'))

/-- A number, or what ends it. -/
def NQ (W : World) (c l : Nat) (s : ByteArray) (p : Nat) (x : St) (g : Got) (N : Nat) (e : Ending) (w' : World) : Prop :=
  Tn W w' [c, l] ∧ ((∃ v f j : Nat, g = ⟨v, f, j, 0, 0⟩ ∧ e = .returned (.tuple #[.int .i64 v, .int .i64 f, okF]) ∧ Rd c l s j (stp x N) w') ∨
    (∃ (k fm a : Int) (q : Nat) (y : St), BD s x g.kind g.place N k fm a q y ∧ e = .returned (ftT k fm a) ∧ Rd c l s q y w'))
theorem nq_of {W w' : World} {c l : Nat} {s : ByteArray} {p : Nat} {x : St} {g : Got} {N : Nat} {e : Ending} (hg : Gd s p g N) (h : GP W c l s p x g N e w') : NQ W c l s p x g N e w' := by
  obtain ⟨q, hpq, hqs, T, ⟨he, hn, R⟩ | ⟨hno, he, R⟩⟩ := h
  · refine ⟨T, ?_⟩
    rcases hg with ⟨kd, pl, rfl, h0, h3, hp, hN⟩ | ⟨v, f, j, rfl, h1, h2, h3, h4, hN⟩
    · refine .inr ⟨kd, 3, pl, q, _, ⟨hqs, .inl ⟨h0, rfl, rfl, rfl, rfl⟩⟩, ?_, R⟩
      rw [he]
      unfold gotT fmK
      rw [if_neg h0]
      rfl
    · obtain rfl : q = j := hn rfl
      exact .inl ⟨v, f, q, rfl, he, R⟩
  · exact ⟨T, .inr ⟨4, 3, q, q, _, ⟨hqs, .inr ⟨hno, rfl, rfl, rfl, rfl⟩⟩, he, R⟩⟩

/-- The samples of a reader, in a cell of the call's own. -/
structure SX (W : World) (c l : Nat) (m : Int) (b : Nat) (w : World) : Prop where
  bx : w.heap[b]? = some (.cells #[.pointer (some ⟨c, 0, none⟩), .int .i64 m] 132 (0, 0))
  tn : Tn W w [c, l]
  wb : W.heap.size = b
  cb : c < b
  lb : l < b
section
variable {W : World} {c l : Nat} {m : Int} {b : Nat} {w w' : World}
theorem SX.turned (h : SX W c l m b w) (t : Tn w w' [c, l]) : SX W c l m b w' := by
  have h1 := h.cb
  have h2 := h.lb
  exact ⟨(t.block b (blk_lt h.bx) (by simp; omega)).trans h.bx, h.tn.trans t, h.wb, h1, h2⟩
theorem SX.al (h : SX W c l m b w) (o : Obj) : SX W c l m b (w.alloc o) := h.turned (Tn.gb (World.grownBy_alloc w o none) (by simp))
theorem SX.lt (h : SX W c l m b w) : b < w.heap.size := blk_lt h.bx
theorem SX.c0 (h : SX W c l m b w) : w.cell? ⟨b, 0, none⟩ = some (.pointer (some ⟨c, 0, none⟩)) := blk_cell h.bx 0
theorem SX.c1 (h : SX W c l m b w) : w.cell? ⟨b, 1, none⟩ = some (.int .i64 m) := blk_cell h.bx 1
end
/-- The box of the samples, as it is made. -/
def bxO (c : Nat) (m : Int) : Obj := .cells #[.pointer (some ⟨c, 0, none⟩), .int .i64 m] 132
theorem SX.new (W : World) (c l : Nat) (m : Int) (hc : c < W.heap.size) (hl : l < W.heap.size) : SX W c l m W.heap.size (W.alloc (bxO c m)) :=
  ⟨blk_at, Tn.gb (World.grownBy_alloc _ _ none) (by simp), rfl, hc, hl⟩

set_option maxRecDepth 100000 in
set_option maxHeartbeats 2000000 in
theorem tnext_calls (c l : Nat) (s : ByteArray) (p m : Nat) (x : St) (W : World) (h : Rd c l s p x W) (hr : x.r = 0) (hm : 1 ≤ m ∧ m ≤ 65535) :
    Calls Tryz.prog 122 #[.agg #[.pointer (some ⟨c, 0, none⟩), .int .i64 m]] W (QP W c l s x (smpV s m p)) := by
  have X0 := (SX.new W c l m h.clt h.llt).al (.cells #[.int .i64 0, .int .i64 0, .int .i64 0] 34)
  have F0 : Fl (W.heap.size + 1) 0 0 0 ((W.alloc (bxO c m)).alloc (.cells #[.int .i64 0, .int .i64 0, .int .i64 0] 34)) := by
    rw [← size_alloc W (bxO c m)]
    exact Fl.new _
  have g0 := gb_trans (World.grownBy_alloc W (bxO c m) none) (World.grownBy_alloc _ (.cells #[.int .i64 0, .int .i64 0, .int .i64 0] 34) none)
  have R0 := h.grown g0
  have hps := h.so.pt
  have hgd := gotV_gd s p hps
  have KN0 := (number_calls c l s p x _ R0 hr).mono (fun e w' h => nq_of hgd h)
  have hcw := h.clt
  have hlw := h.llt
  unfold bxO at X0 F0 KN0
  have c0 := X0.c0
  have HX0 := Lib.hid X0
  have HF0 := Lib.hid F0
  have KN := Lib.hid KN0
  have HCB : W.heap.size + 1 ∉ [c, l] := by simp; omega
  have HKC : W.heap.size + 1 ≠ c := by omega
  have HKL : W.heap.size + 1 ≠ l := by omega
  clear X0 F0 g0 R0 h hgd hcw hlw KN0
  go_enter Tryz.func122, Tryz.ntmps122
  go_wp2_with fail
  generalize (W.alloc (.cells #[.pointer (some ⟨c, 0, none⟩), .int .i64 m] 132)).alloc (.cells #[.int .i64 0, .int .i64 0, .int .i64 0] 34) = w0 at c0 HX0 HF0 KN ⊢
  refine KN.out.mono ?_
  rintro e w1 ⟨T1, ⟨v, f, j, eg, rfl, R1⟩ | ⟨k, fm, a, q, y, bd, rfl, R1⟩⟩
  · have X2 := (HX0.out.turned T1).al (.cells #[.int .i64 0, .int .i64 0, .int .i64 0] 34)
    have F2 := Ph.Fl.al (HF0.out.turned T1 HCB) (.cells #[.int .i64 0, .int .i64 0, .int .i64 0] 34)
    have R2 := R1.grown (World.grownBy_alloc w1 (.cells #[.int .i64 0, .int .i64 0, .int .i64 0] 34) none)
    have G2 : Fl w1.heap.size 0 0 0 (w1.alloc (.cells #[.int .i64 0, .int .i64 0, .int .i64 0] 34)) := blk_at
    have e1 := X2.c1
    have xlt := X2.lt
    have q0 := G2.c0
    have q1 := G2.c1
    have q2 := G2.c2
    have r0 := F2.c0
    have r1 := F2.c1
    have r2 := F2.c2
    have f0 := F2.free 0
    have f1 := F2.free 1
    have f2 := F2.free 2
    have HX2 := Lib.hid X2
    have HF2 := Lib.hid F2
    have HR2 := Lib.hid R2
    clear X2 F2 R2 G2 R1 T1 c0 HX0 HF0 KN
    have HEG := Lib.hid eg
    clear eg
    by_cases hv : m < v
    · have KM := Lib.hid (fun u => max_no (v : Int) (m : Int) u (by unfold may; simp; omega))
      have KX := Lib.hid (fun u => xmal_calls (f : Int) u)
      have HV := Lib.hid hv
      clear hm hv
      simp only [okF]
      go_wp2_with fail
      generalize w1.alloc (.cells #[.int .i64 0, .int .i64 0, .int .i64 0] 34) = w2 at q0 q1 q2 r0 r1 r2 f0 f1 f2 e1 xlt HX2 HF2 HR2 ⊢
      refine (KM.out _).mono ?_
      rintro e w' ⟨rfl, rfl⟩
      go_wp2_with fail
      refine (KX.out _).mono ?_
      rintro e w3 ⟨rfl, g3⟩
      have F3 := HF2.out.turned (Tn.gb g3 (S := [c, l]) (by simp)) HCB
      clear r0 r1 r2 f0 f1 f2 q0 q1 q2
      have r0 := F3.c0
      have r1 := F3.c1
      have r2 := F3.c2
      have f0 := F3.free 0
      have f1 := F3.free 1
      have f2 := F3.free 2
      have HX3 := Lib.hid (HX2.out.turned (Tn.gb g3 (by simp)))
      have HR3 := Lib.hid (HR2.out.grown g3)
      clear F3 g3 e1 xlt
      go_wp2
      refine bodyPost_ret (v := .tuple #[.int .u8 0, .agg #[.int .i64 2, .int .i64 3, .int .i64 f]]) (by simp only [results, Tryz.results122]; go_simp) rfl
        ⟨Tn.own1 (Tn.own1 (Tn.own1 HX3.out.tn (Nat.le_succ _)) (Nat.le_succ _)) (Nat.le_succ _), .inr ⟨2, 3, f, j, _, ⟨HR3.out.so.pt, .inl ⟨?_, ?_, rfl, ?_, ?_⟩⟩, rfl, HR3.out.st3 HKC HKL⟩⟩
      all_goals rw [smp_big HEG.out HV.out]
      · show (2 : Nat) ≠ 0
        decide
      · rfl
    · have KM := Lib.hid (fun u => max_yes (v : Int) (m : Int) u (by unfold may; simp; omega))
      have hn := nearN_is hm.1 (by omega : v ≤ m)
      have hle := nearN_le hm.1 (by omega : v ≤ m)
      have hs := smp_yes HEG.out (by omega : v ≤ m)
      rw [← hn] at KM
      obtain ⟨z, hz⟩ : ∃ z, nearN v m = z := ⟨_, rfl⟩
      rw [hz] at KM hs hle
      have HS := Lib.hid hs
      have HLE := Lib.hid hle
      clear hm hn hs hle hz hv
      simp only [okF]
      go_wp2_with fail
      generalize w1.alloc (.cells #[.int .i64 0, .int .i64 0, .int .i64 0] 34) = w2 at q0 q1 q2 r0 r1 r2 f0 f1 f2 e1 xlt HX2 HF2 HR2 ⊢
      refine (KM.out _).mono ?_
      rintro e w' ⟨rfl, rfl⟩
      go_wp2_with fail
      go_region
      go_wp2
      refine bodyPost_ret (v := .tuple #[.int .u8 z, okF]) (by simp only [results, Tryz.results122, okF]; go_simp) rfl ?_
      rw [HS.out]
      exact ⟨(Tn.own1 (Tn.own1 (Tn.own1 HX2.out.tn (Nat.le_succ _)) (Nat.le_succ _)) (Nat.le_succ _)).dr, .inl ⟨rfl, HLE.out, rfl, (HR2.out.st3 HKC HKL).grown (gb_drew _ _)⟩⟩
  · have hk := bd.kne
    have d0 : (k != 0) = true := by rw [bne_iff_ne]; exact hk
    have X2 := (HX0.out.turned T1).al (.cells #[.int .i64 k, .int .i64 fm, .int .i64 a] 34)
    have F2 := Ph.Fl.al (HF0.out.turned T1 HCB) (.cells #[.int .i64 k, .int .i64 fm, .int .i64 a] 34)
    have R2 := R1.grown (World.grownBy_alloc w1 (.cells #[.int .i64 k, .int .i64 fm, .int .i64 a] 34) none)
    have G2 : Fl w1.heap.size k fm a (w1.alloc (.cells #[.int .i64 k, .int .i64 fm, .int .i64 a] 34)) := blk_at
    have e1 := X2.c1
    have xlt := X2.lt
    have q0 := G2.c0
    have q1 := G2.c1
    have q2 := G2.c2
    have r0 := F2.c0
    have r1 := F2.c1
    have r2 := F2.c2
    have f0 := F2.free 0
    have f1 := F2.free 1
    have f2 := F2.free 2
    have HX2 := Lib.hid X2
    have HF2 := Lib.hid F2
    have HR2 := Lib.hid R2
    clear X2 F2 R2 G2 R1 T1 c0 HX0 HF0 KN
    have HBD := Lib.hid bd
    clear bd hk
    simp only [ftT]
    go_wp2_with fail
    generalize w1.alloc (.cells #[.int .i64 k, .int .i64 fm, .int .i64 a] 34) = w2 at q0 q1 q2 r0 r1 r2 f0 f1 f2 e1 xlt HX2 HF2 HR2 ⊢
    go_region
    go_wp2
    refine bodyPost_ret (v := .tuple #[.int .u8 0, .agg #[.int .i64 k, .int .i64 fm, .int .i64 a]]) (by simp only [results, Tryz.results122]; go_simp) rfl
      ⟨(Tn.own1 (Tn.own1 (Tn.own1 HX2.out.tn (Nat.le_succ _)) (Nat.le_succ _)) (Nat.le_succ _)).dr, .inr ⟨k, fm, a, q, y, HBD.out.re (smp_f s m p) (smp_n s m p), rfl, (HR2.out.st3 HKC HKL).grown (gb_drew _ _)⟩⟩

end Go.Proofs.YtcfdippcobkbaaaGreat.Px

/- Text's pixels: of one digit, of one number (written by wip/gen/pxt2.py). -/
namespace Go.Proofs.YtcfdippcobkbaaaGreat.Px
open Go.ChangeShapes Go.WideShapes Go.ChangeAt Go.RowKit
open Go.Proofs.YtcfdippcobkbaaaGreat.Le Go.Proofs.YtcfdippcobkbaaaGreat.Tk Go.Proofs.YtcfdippcobkbaaaGreat.Sc Go.Proofs.YtcfdippcobkbaaaGreat.Sr Go.Proofs.YtcfdippcobkbaaaGreat.Ph
set_option linter.unusedVariables false

/-- Behind a pixel: its colour and all is well (Y), or what ends the reading. -/
def NP (W : World) (S : List Nat) (c l : Nat) (s : ByteArray) (x : St) (o : PX) (Y : World → Prop) (e : Ending) (w' : World) : Prop :=
  Tn W w' S ∧ ((o.f = 0 ∧ (o.r ≤ 255 ∧ o.g ≤ 255 ∧ o.b ≤ 255) ∧ e = .returned (.tuple #[.agg #[.int .u8 (o.r : Int), .int .u8 (o.g : Int), .int .u8 (o.b : Int), .int .u8 255], okF]) ∧ Rd c l s o.a (stp x o.n) w' ∧ Y w') ∨
    (∃ (k g a : Int) (q : Nat) (y : St), BD s x o.f o.p o.n k g a q y ∧ e = .returned (.tuple #[.agg #[.int .u8 0, .int .u8 0, .int .u8 0, .int .u8 0], .agg #[.int .i64 k, .int .i64 g, .int .i64 a]]) ∧ Rd c l s q y w'))
def fO (k g a : Int) : Obj := .cells #[.int .i64 k, .int .i64 g, .int .i64 a] 34
def cO (a b c d : Int) : Obj := .cells #[.int .u8 a, .int .u8 b, .int .u8 c, .int .u8 d] 60

/-- A reader's call: the samples in block b, the results in the two behind it. -/
structure SY (W : World) (c l : Nat) (m : Int) (b : Nat) (w : World) : Prop where
  sx : SX W c l m b w
  co : Co (b + 1) 0 0 0 0 w
  fl : Fl (b + 1 + 1) 0 0 0 w
section
variable {W : World} {c l : Nat} {m : Int} {b : Nat} {w w' : World}
theorem SY.turned (h : SY W c l m b w) (t : Tn w w' [c, l]) : SY W c l m b w' := by
  have h1 := h.sx.cb
  have h2 := h.sx.lb
  exact ⟨h.sx.turned t, h.co.turned t (by simp; omega), h.fl.turned t (by simp; omega)⟩
theorem SY.gb (h : SY W c l m b w) (g : w.grownBy w' none) : SY W c l m b w' := h.turned (Tn.gb g (by simp))
theorem SY.al (h : SY W c l m b w) (o : Obj) : SY W c l m b (w.alloc o) := h.gb (World.grownBy_alloc _ _ _)
theorem SY.new (W : World) (c l : Nat) (m : Int) (hc : c < W.heap.size) (hl : l < W.heap.size) : SY W c l m W.heap.size (((W.alloc (bxO c m)).alloc (cO 0 0 0 0)).alloc (fO 0 0 0)) := by
  refine ⟨((SX.new W c l m hc hl).al _).al _, Co.al ?_ _, ?_⟩
  · rw [← size_alloc W (bxO c m)]
    exact blk_at
  · rw [← size_alloc W (bxO c m), ← size_alloc (W.alloc (bxO c m)) (cO 0 0 0 0)]
    exact Fl.new _
theorem Tn.own4 {a b : World} {S : List Nat} {k : Nat} {v0 v1 v2 v3 : Value} (h : Tn a b S) (hk : a.heap.size ≤ k) : Tn a ((((b.setCell ⟨k, 0, none⟩ v0).setCell ⟨k, 1, none⟩ v1).setCell ⟨k, 2, none⟩ v2).setCell ⟨k, 3, none⟩ v3) S :=
  Tn.own1 (Tn.own1 (Tn.own1 (Tn.own1 h hk) hk) hk) hk
theorem Tn.owns3 {a b : World} {S : List Nat} {k : Nat} {v0 v1 v2 : Value} (h : Tn a b S) (hk : a.heap.size ≤ k) : Tn a (((b.setCell ⟨k, 0, none⟩ v0).setCell ⟨k, 1, none⟩ v1).setCell ⟨k, 2, none⟩ v2) S :=
  Tn.own1 (Tn.own1 (Tn.own1 h hk) hk) hk
theorem rd4 {p : Nat} {s : ByteArray} {x : St} {k : Nat} {v0 v1 v2 v3 : Value} (h : Rd c l s p x w) (hc : k ≠ c) (hl : k ≠ l) : Rd c l s p x ((((w.setCell ⟨k, 0, none⟩ v0).setCell ⟨k, 1, none⟩ v1).setCell ⟨k, 2, none⟩ v2).setCell ⟨k, 3, none⟩ v3) :=
  (((h.st hc.symm hl.symm).st hc.symm hl.symm).st hc.symm hl.symm).st hc.symm hl.symm
end

theorem px2_f {s : ByteArray} {m a : Nat} (h : (smpV s m a).f ≠ 0) : (pxV s 2 m a).f = (smpV s m a).f ∧ (pxV s 2 m a).p = (smpV s m a).p := by
  have e : sms s m a 1 = ⟨(smpV s m a).f, (smpV s m a).p, a, [], 0 + (smpV s m a).n⟩ := ss_fault rfl h
  constructor
  · show (sms s m a 1).f = _
    rw [e]
  · show (sms s m a 1).p = _
    rw [e]
theorem px2_n (s : ByteArray) (m a : Nat) : (pxV s 2 m a).n = (smpV s m a).n := by
  show (sms s m a 1).n = _
  by_cases h : (smpV s m a).f = 0
  · have e : sms s m a 1 = ⟨0, 0, (smpV s m a).a, [] ++ [(smpV s m a).v], 0 + (smpV s m a).n⟩ := ss_yes rfl h
    rw [e]
    exact Nat.zero_add _
  · have e : sms s m a 1 = ⟨(smpV s m a).f, (smpV s m a).p, a, [], 0 + (smpV s m a).n⟩ := ss_fault rfl h
    rw [e]
    exact Nat.zero_add _
theorem px2_yes {s : ByteArray} {m a : Nat} (h : (smpV s m a).f = 0) : pxV s 2 m a = ⟨0, 0, (smpV s m a).a, (smpV s m a).v, (smpV s m a).v, (smpV s m a).v, (smpV s m a).n⟩ := by
  have e : sms s m a 1 = ⟨0, 0, (smpV s m a).a, [] ++ [(smpV s m a).v], 0 + (smpV s m a).n⟩ := ss_yes rfl h
  show (⟨(sms s m a 1).f, (sms s m a 1).p, (sms s m a 1).a, (sms s m a 1).vs.getD 0 0, (sms s m a 1).vs.getD 0 0, (sms s m a 1).vs.getD 0 0, (sms s m a 1).n⟩ : PX) = _
  rw [e, Nat.zero_add]
  rfl
theorem px1_is (s : ByteArray) (m a : Nat) : pxV s 1 m a = ⟨(bitV s a).f, (bitV s a).p, (bitV s a).a, (bitV s a).v, (bitV s a).v, (bitV s a).v, (bitV s a).n⟩ := rfl
theorem bit_n (s : ByteArray) (a : Nat) : (bitV s a).n = ovN s a + 1 := by
  unfold bitV
  split <;> rfl
theorem dig_le {s : ByteArray} {a v f j : Nat} (h : digV s a = ⟨v, f, j, 0, 0⟩) : v = 0 ∨ v = 1 := by
  unfold digV at h
  split at h
  · cases h
  · split at h
    · rename_i h1
      have e := congrArg Got.v h
      simp only at e
      omega
    · cases h
theorem bit_f (s : ByteArray) (m a : Nat) (h : (digV s a).kind ≠ 0) : (pxV s 1 m a).f = (digV s a).kind ∧ (pxV s 1 m a).p = (digV s a).place := by
  rw [px1_is]
  unfold bitV
  rw [if_pos h]
  exact ⟨rfl, rfl⟩

set_option maxRecDepth 100000 in
set_option maxHeartbeats 4000000 in
theorem tgrey_calls (c l : Nat) (s : ByteArray) (p m : Nat) (x : St) (i : Int) (W : World) (h : Rd c l s p x W) (hr : x.r = 0) (hm : 1 ≤ m ∧ m ≤ 65535) :
    Calls Tryz.prog 95 #[.agg #[.pointer (some ⟨c, 0, none⟩), .int .i64 m], .int .i64 i] W (NP W [c, l] c l s x (pxV s 2 m p) (fun _ => True)) := by
  have Y0 := SY.new W c l m h.clt h.llt
  have g0 := gb_trans (gb_trans (World.grownBy_alloc W (bxO c m) none) (World.grownBy_alloc _ (cO 0 0 0 0) none)) (World.grownBy_alloc _ (fO 0 0 0) none)
  have R0 := h.grown g0
  have hps := h.so.pt
  have hgd := smp_gd s m p hps hm.1
  have KN0 := tnext_calls c l s p m x _ R0 hr hm
  unfold bxO cO fO at Y0 KN0
  have c0 := Y0.sx.c0
  have c1 := Y0.sx.c1
  have HY0 := Lib.hid Y0
  have KN := Lib.hid KN0
  have hcw := h.clt
  have hlw := h.llt
  have HKC : W.heap.size + 1 ≠ c := by omega
  have HKL : W.heap.size + 1 ≠ l := by omega
  have HJC : W.heap.size + 1 + 1 ≠ c := by omega
  have HJL : W.heap.size + 1 + 1 ≠ l := by omega
  clear Y0 g0 R0 h KN0 hcw hlw
  go_enter Tryz.func95, Tryz.ntmps95
  go_wp2_with fail
  generalize ((W.alloc (.cells #[.pointer (some ⟨c, 0, none⟩), .int .i64 m] 132)).alloc (.cells #[.int .u8 0, .int .u8 0, .int .u8 0, .int .u8 0] 60)).alloc (.cells #[.int .i64 0, .int .i64 0, .int .i64 0] 34) = w0 at c0 c1 HY0 KN ⊢
  refine KN.out.mono ?_
  rintro e w1 ⟨T1, ⟨hf, hv, rfl, R1⟩ | ⟨k, fm, a, q, y, bd, rfl, R1⟩⟩
  · have Y2 := (HY0.out.turned T1).al (.cells #[.int .i64 0, .int .i64 0, .int .i64 0] 34)
    have R2 := R1.grown (World.grownBy_alloc w1 (.cells #[.int .i64 0, .int .i64 0, .int .i64 0] 34) none)
    have G2 : Fl w1.heap.size 0 0 0 (w1.alloc (.cells #[.int .i64 0, .int .i64 0, .int .i64 0] 34)) := blk_at
    have q0 := G2.c0
    have q1 := G2.c1
    have q2 := G2.c2
    have qlt := G2.lt
    have hlt9 := (HY0.out.turned T1).fl.lt
    have n1 : ¬ w1.heap.size = W.heap.size + 1 := by omega
    have n2 : ¬ W.heap.size + 1 = w1.heap.size := by omega
    have n3 : ¬ w1.heap.size = W.heap.size + 1 + 1 := by omega
    have n4 : ¬ W.heap.size + 1 + 1 = w1.heap.size := by omega
    have HG2 := Lib.hid G2
    have HY2 := Lib.hid Y2
    have HR2 := Lib.hid R2
    have hpx := px2_yes hf
    obtain ⟨z, hz⟩ : ∃ z, (smpV s m p).v = z := ⟨_, rfl⟩
    rw [hz] at hpx hv ⊢
    have KI := Lib.hid (fun u => xgrey_calls (z : Int) u)
    have HPX := Lib.hid hpx
    have HV := Lib.hid hv
    clear hz hf hv hgd hpx
    clear Y2 R2 G2 R1 T1 c0 c1 HY0 KN hm
    simp only [okF]
    go_wp2_with fail
    generalize w1.alloc (.cells #[.int .i64 0, .int .i64 0, .int .i64 0] 34) = w2 at q0 q1 q2 qlt HG2 HY2 HR2 ⊢
    go_region_held3 (fun w' => w'.cell? ⟨w1.heap.size, 0, none⟩ = some (.int .i64 0) ∧ w'.cell? ⟨w1.heap.size, 1, none⟩ = some (.int .i64 0) ∧ w'.cell? ⟨w1.heap.size, 2, none⟩ = some (.int .i64 0)) (go_keep)
      (first | (go_at_call 124; refine (KI.out _).mono ?_; rintro e w3 ⟨rfl, g3⟩; have G3 := Lib.hid (gb_trans (gb_drew w2 none) g3); have kk0 : w3.cell? ⟨w1.heap.size, 0, none⟩ = some (.int .i64 0) := (HG2.out.turned (Tn.gb G3.out (S := []) (by simp)) (by simp)).c0; have kk1 : w3.cell? ⟨w1.heap.size, 1, none⟩ = some (.int .i64 0) := (HG2.out.turned (Tn.gb G3.out (S := []) (by simp)) (by simp)).c1; have kk2 : w3.cell? ⟨w1.heap.size, 2, none⟩ = some (.int .i64 0) := (HG2.out.turned (Tn.gb G3.out (S := []) (by simp)) (by simp)).c2; have Y2 := HY2.out.gb G3.out; have r0 := Y2.co.c0; have r1 := Y2.co.c1; have r2 := Y2.co.c2; have r3 := Y2.co.c3; have f0 := Y2.co.free 0; have f1 := Y2.co.free 1; have f2 := Y2.co.free 2; have f3 := Y2.co.free 3; have t0 := Y2.fl.c0; have t1 := Y2.fl.c1; have t2 := Y2.fl.c2; have g0 := Y2.fl.free 0; have g1 := Y2.fl.free 1; have g2 := Y2.fl.free 2; have HY3 := Lib.hid Y2; have HR3 := Lib.hid (HR2.out.grown G3.out); clear Y2 g3))
    all_goals
      go_wp2
      refine bodyPost_ret (v := .tuple #[.agg #[.int .u8 z, .int .u8 z, .int .u8 z, .int .u8 255], okF]) (by simp only [results, Tryz.results95, okF]; go_simp) rfl ⟨Tn.owns3 (Tn.own4 HY3.out.sx.tn (Nat.le_succ _)) (Nat.le_add_right _ 2), .inl ?_⟩
      have RR := (rd4 (v0 := .int .u8 z) (v1 := .int .u8 z) (v2 := .int .u8 z) (v3 := .int .u8 255) HR3.out HKC HKL).st3 (v0 := .int .i64 0) (v1 := .int .i64 0) (v2 := .int .i64 0) HJC HJL
      rw [HPX.out]
      exact ⟨rfl, ⟨HV.out, HV.out, HV.out⟩, rfl, RR, trivial⟩
  · have hk := bd.kne
    have d0 : (k != 0) = true := by rw [bne_iff_ne]; exact hk
    have Y2 := (HY0.out.turned T1).al (.cells #[.int .i64 k, .int .i64 fm, .int .i64 a] 34)
    have R2 := R1.grown (World.grownBy_alloc w1 (.cells #[.int .i64 k, .int .i64 fm, .int .i64 a] 34) none)
    have G2 : Fl w1.heap.size k fm a (w1.alloc (.cells #[.int .i64 k, .int .i64 fm, .int .i64 a] 34)) := blk_at
    have q0 := G2.c0
    have q1 := G2.c1
    have q2 := G2.c2
    have hlt9 := (HY0.out.turned T1).fl.lt
    have n1 : ¬ w1.heap.size = W.heap.size + 1 := by omega
    have n2 : ¬ W.heap.size + 1 = w1.heap.size := by omega
    have n3 : ¬ w1.heap.size = W.heap.size + 1 + 1 := by omega
    have n4 : ¬ W.heap.size + 1 + 1 = w1.heap.size := by omega
    have r0 := Y2.co.c0
    have r1 := Y2.co.c1
    have r2 := Y2.co.c2
    have r3 := Y2.co.c3
    have f0 := Y2.co.free 0
    have f1 := Y2.co.free 1
    have f2 := Y2.co.free 2
    have f3 := Y2.co.free 3
    have t0 := Y2.fl.c0
    have t1 := Y2.fl.c1
    have t2 := Y2.fl.c2
    have g0 := Y2.fl.free 0
    have g1 := Y2.fl.free 1
    have g2 := Y2.fl.free 2
    have HY2 := Lib.hid Y2
    have HR2 := Lib.hid R2
    have HBD := Lib.hid bd
    clear Y2 R2 G2 R1 T1 c0 c1 HY0 KN bd hk
    go_wp2_with fail
    generalize w1.alloc (.cells #[.int .i64 k, .int .i64 fm, .int .i64 a] 34) = w2 at q0 q1 q2 r0 r1 r2 r3 f0 f1 f2 f3 t0 t1 t2 g0 g1 g2 HY2 HR2 ⊢
    go_region
    go_wp2
    refine bodyPost_ret (v := .tuple #[.agg #[.int .u8 0, .int .u8 0, .int .u8 0, .int .u8 0], .agg #[.int .i64 k, .int .i64 fm, .int .i64 a]]) (by simp only [results, Tryz.results95]; go_simp) rfl
      ⟨(Tn.owns3 (Tn.own4 HY2.out.sx.tn (Nat.le_succ _)) (Nat.le_add_right _ 2)).dr, .inr ⟨k, fm, a, q, y, HBD.out.re (fun h => px2_f h) (px2_n s m p), rfl, ((rd4 HR2.out HKC HKL).st3 HJC HJL).grown (gb_drew _ _)⟩⟩

set_option maxRecDepth 100000 in
set_option maxHeartbeats 4000000 in
theorem tink_calls (c l : Nat) (s : ByteArray) (p m : Nat) (x : St) (i : Int) (W : World) (h : Rd c l s p x W) (hr : x.r = 0) (hm : 1 ≤ m ∧ m ≤ 65535) :
    Calls Tryz.prog 92 #[.agg #[.pointer (some ⟨c, 0, none⟩), .int .i64 m], .int .i64 i] W (NP W [c, l] c l s x (pxV s 1 m p) (fun _ => True)) := by
  have Y0 := SY.new W c l m h.clt h.llt
  have g0 := gb_trans (gb_trans (World.grownBy_alloc W (bxO c m) none) (World.grownBy_alloc _ (cO 0 0 0 0) none)) (World.grownBy_alloc _ (fO 0 0 0) none)
  have R0 := h.grown g0
  have hps := h.so.pt
  have hgd := digV_gd s p hps
  have KN0 := (dig_calls c l s p x _ R0 hr).mono (fun e w' h => nq_of hgd h)
  unfold bxO cO fO at Y0 KN0
  have c0 := Y0.sx.c0
  have c1 := Y0.sx.c1
  have HY0 := Lib.hid Y0
  have KN := Lib.hid KN0
  have hcw := h.clt
  have hlw := h.llt
  have HKC : W.heap.size + 1 ≠ c := by omega
  have HKL : W.heap.size + 1 ≠ l := by omega
  have HJC : W.heap.size + 1 + 1 ≠ c := by omega
  have HJL : W.heap.size + 1 + 1 ≠ l := by omega
  clear Y0 g0 R0 h KN0 hcw hlw
  go_enter Tryz.func92, Tryz.ntmps92
  go_wp2_with fail
  generalize ((W.alloc (.cells #[.pointer (some ⟨c, 0, none⟩), .int .i64 m] 132)).alloc (.cells #[.int .u8 0, .int .u8 0, .int .u8 0, .int .u8 0] 60)).alloc (.cells #[.int .i64 0, .int .i64 0, .int .i64 0] 34) = w0 at c0 c1 HY0 KN ⊢
  refine KN.out.mono ?_
  rintro e w1 ⟨T1, ⟨v, f, j, eg, rfl, R1⟩ | ⟨k, fm, a, q, y, bd, rfl, R1⟩⟩
  · have Y2 := (HY0.out.turned T1).al (.cells #[.int .i64 0, .int .i64 0, .int .i64 0] 34)
    have R2 := R1.grown (World.grownBy_alloc w1 (.cells #[.int .i64 0, .int .i64 0, .int .i64 0] 34) none)
    have G2 : Fl w1.heap.size 0 0 0 (w1.alloc (.cells #[.int .i64 0, .int .i64 0, .int .i64 0] 34)) := blk_at
    have q0 := G2.c0
    have q1 := G2.c1
    have q2 := G2.c2
    have qlt := G2.lt
    have hlt9 := (HY0.out.turned T1).fl.lt
    have n1 : ¬ w1.heap.size = W.heap.size + 1 := by omega
    have n2 : ¬ W.heap.size + 1 = w1.heap.size := by omega
    have n3 : ¬ w1.heap.size = W.heap.size + 1 + 1 := by omega
    have n4 : ¬ W.heap.size + 1 + 1 = w1.heap.size := by omega
    have HG2 := Lib.hid G2
    have HY2 := Lib.hid Y2
    have HR2 := Lib.hid R2
    have hpx := px1_is s m p
    have hb := bit_yes eg
    have hd01 := hgd
    rw [eg] at hd01
    have hv1 : v ≤ 1 := by
      rcases dig_le eg with h | h <;> omega
    obtain ⟨z, hz⟩ : ∃ z, 255 * (1 - v) = z := ⟨_, rfl⟩
    rw [hb, hz] at hpx
    have hv : z ≤ 255 := by omega
    have KI := Lib.hid (fun u => xink_calls (v : Int) (z : Int) u (by
      by_cases h1 : v = 1
      · exact .inl ⟨by rw [beq_iff_eq]; omega, by omega⟩
      · exact .inr ⟨by rw [beq_eq_false_iff_ne]; omega, by omega⟩))
    have HPX := Lib.hid hpx
    have HV := Lib.hid hv
    clear hz hb hd01 eg hv1 hv hgd hpx
    clear Y2 R2 G2 R1 T1 c0 c1 HY0 KN hm
    simp only [okF]
    go_wp2_with fail
    generalize w1.alloc (.cells #[.int .i64 0, .int .i64 0, .int .i64 0] 34) = w2 at q0 q1 q2 qlt HG2 HY2 HR2 ⊢
    go_region_held3 (fun w' => w'.cell? ⟨w1.heap.size, 0, none⟩ = some (.int .i64 0) ∧ w'.cell? ⟨w1.heap.size, 1, none⟩ = some (.int .i64 0) ∧ w'.cell? ⟨w1.heap.size, 2, none⟩ = some (.int .i64 0)) (go_keep)
      (first | (go_at_call 101; refine (KI.out _).mono ?_; rintro e w3 ⟨rfl, g3⟩; have G3 := Lib.hid (gb_trans (gb_drew w2 none) g3); have kk0 : w3.cell? ⟨w1.heap.size, 0, none⟩ = some (.int .i64 0) := (HG2.out.turned (Tn.gb G3.out (S := []) (by simp)) (by simp)).c0; have kk1 : w3.cell? ⟨w1.heap.size, 1, none⟩ = some (.int .i64 0) := (HG2.out.turned (Tn.gb G3.out (S := []) (by simp)) (by simp)).c1; have kk2 : w3.cell? ⟨w1.heap.size, 2, none⟩ = some (.int .i64 0) := (HG2.out.turned (Tn.gb G3.out (S := []) (by simp)) (by simp)).c2; have Y2 := HY2.out.gb G3.out; have r0 := Y2.co.c0; have r1 := Y2.co.c1; have r2 := Y2.co.c2; have r3 := Y2.co.c3; have f0 := Y2.co.free 0; have f1 := Y2.co.free 1; have f2 := Y2.co.free 2; have f3 := Y2.co.free 3; have t0 := Y2.fl.c0; have t1 := Y2.fl.c1; have t2 := Y2.fl.c2; have g0 := Y2.fl.free 0; have g1 := Y2.fl.free 1; have g2 := Y2.fl.free 2; have HY3 := Lib.hid Y2; have HR3 := Lib.hid (HR2.out.grown G3.out); clear Y2 g3))
    all_goals
      go_wp2
      refine bodyPost_ret (v := .tuple #[.agg #[.int .u8 z, .int .u8 z, .int .u8 z, .int .u8 255], okF]) (by simp only [results, Tryz.results92, okF]; go_simp) rfl ⟨Tn.owns3 (Tn.own4 HY3.out.sx.tn (Nat.le_succ _)) (Nat.le_add_right _ 2), .inl ?_⟩
      have RR := (rd4 (v0 := .int .u8 z) (v1 := .int .u8 z) (v2 := .int .u8 z) (v3 := .int .u8 255) HR3.out HKC HKL).st3 (v0 := .int .i64 0) (v1 := .int .i64 0) (v2 := .int .i64 0) HJC HJL
      rw [HPX.out]
      exact ⟨rfl, ⟨HV.out, HV.out, HV.out⟩, rfl, RR, trivial⟩
  · have hk := bd.kne
    have d0 : (k != 0) = true := by rw [bne_iff_ne]; exact hk
    have Y2 := (HY0.out.turned T1).al (.cells #[.int .i64 k, .int .i64 fm, .int .i64 a] 34)
    have R2 := R1.grown (World.grownBy_alloc w1 (.cells #[.int .i64 k, .int .i64 fm, .int .i64 a] 34) none)
    have G2 : Fl w1.heap.size k fm a (w1.alloc (.cells #[.int .i64 k, .int .i64 fm, .int .i64 a] 34)) := blk_at
    have q0 := G2.c0
    have q1 := G2.c1
    have q2 := G2.c2
    have hlt9 := (HY0.out.turned T1).fl.lt
    have n1 : ¬ w1.heap.size = W.heap.size + 1 := by omega
    have n2 : ¬ W.heap.size + 1 = w1.heap.size := by omega
    have n3 : ¬ w1.heap.size = W.heap.size + 1 + 1 := by omega
    have n4 : ¬ W.heap.size + 1 + 1 = w1.heap.size := by omega
    have r0 := Y2.co.c0
    have r1 := Y2.co.c1
    have r2 := Y2.co.c2
    have r3 := Y2.co.c3
    have f0 := Y2.co.free 0
    have f1 := Y2.co.free 1
    have f2 := Y2.co.free 2
    have f3 := Y2.co.free 3
    have t0 := Y2.fl.c0
    have t1 := Y2.fl.c1
    have t2 := Y2.fl.c2
    have g0 := Y2.fl.free 0
    have g1 := Y2.fl.free 1
    have g2 := Y2.fl.free 2
    have HY2 := Lib.hid Y2
    have HR2 := Lib.hid R2
    have HBD := Lib.hid bd
    clear Y2 R2 G2 R1 T1 c0 c1 HY0 KN bd hk
    simp only [ftT]
    go_wp2_with fail
    generalize w1.alloc (.cells #[.int .i64 k, .int .i64 fm, .int .i64 a] 34) = w2 at q0 q1 q2 r0 r1 r2 r3 f0 f1 f2 f3 t0 t1 t2 g0 g1 g2 HY2 HR2 ⊢
    go_region
    go_wp2
    refine bodyPost_ret (v := .tuple #[.agg #[.int .u8 0, .int .u8 0, .int .u8 0, .int .u8 0], .agg #[.int .i64 k, .int .i64 fm, .int .i64 a]]) (by simp only [results, Tryz.results92]; go_simp) rfl
      ⟨(Tn.owns3 (Tn.own4 HY2.out.sx.tn (Nat.le_succ _)) (Nat.le_add_right _ 2)).dr, .inr ⟨k, fm, a, q, y, HBD.out.re (bit_f s m p) (bit_n s p), rfl, ((rd4 HR2.out HKC HKL).st3 HJC HJL).grown (gb_drew _ _)⟩⟩

end Go.Proofs.YtcfdippcobkbaaaGreat.Px
