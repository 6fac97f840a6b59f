/- Texts of one kind, one behind the other: Dec1, Dec2. -/
import Derived.BigRegion
import Derived.Test.YtcfdippcobkbaaaGreatG20
/- Package pnm: Decode, walked. -/
namespace Go.Proofs.YtcfdippcobkbaaaGreat.Px
open Go.ChangeShapes Go.WideShapes Go.ChangeAt Go.RowKit
open Go.Proofs.YtcfdippcobkbaaaGreat.Le Go.Proofs.YtcfdippcobkbaaaGreat.Tk Go.Proofs.YtcfdippcobkbaaaGreat.Sc Go.Proofs.YtcfdippcobkbaaaGreat.Sr Go.Proofs.YtcfdippcobkbaaaGreat.Ph Go.Proofs.YtcfdippcobkbaaaGreat.Ra
set_option linter.unusedVariables false

theorem ledger_rd (c l : Nat) (s : ByteArray) (p : Nat) (x : St) (w : World) (h : Rd c l s p x w) :
    Calls Tryz.prog 48 #[.pointer (some ⟨c, 0, none⟩)] w fun e w' => e = .returned (.pointer (some ⟨l, 0, none⟩)) ∧ w = w' := by
  have c0 := blk_cell h.so.blk 0
  simp only [Sr.SC, List.getElem?_toArray, List.getElem?_cons_zero] at c0
  clear h
  go_enter Tryz.func48, Tryz.ntmps48
  go_wp2
  go_ret
  exact ⟨rfl, rfl⟩

/-- What the pixels behind a good head are. -/
def dz (s : ByteArray) (k m w a N : Nat) : PS := if k ≤ 3 then pxs s k m a N else rawZ s k m w a N
/-- What a file is: its fault and the fault's place, or its sides and colours; the steps that it takes at most. -/
structure DV where
  f : Nat
  p : Nat
  w : Nat
  h : Nat
  N : Nat
  l : List (Nat × Nat × Nat)
def dV (s : ByteArray) : DV :=
  if (readV s).f = 0 then
    ⟨(dz s (readV s).k (readV s).m (readV s).w (readV s).a ((readV s).w * (readV s).h)).f, (dz s (readV s).k (readV s).m (readV s).w (readV s).a ((readV s).w * (readV s).h)).p, (readV s).w, (readV s).h,
      readN s + (dz s (readV s).k (readV s).m (readV s).w (readV s).a ((readV s).w * (readV s).h)).n + (readV s).w * (readV s).h, (dz s (readV s).k (readV s).m (readV s).w (readV s).a ((readV s).w * (readV s).h)).l⟩
  else ⟨(readV s).f, (readV s).p, 0, 0, readN s, []⟩

/-- The budget is the same. -/
structure Lim (x y : St) : Prop where
  w : y.w = x.w
  h : y.h = x.h
  b : y.b = x.b
  s : y.s = x.s
def flV (k g a : Int) : Value := .agg #[.int .i64 k, .int .i64 g, .int .i64 a]
/-- Behind Decode. -/
def DO (W : World) (s : ByteArray) (c l : Nat) (x : St) (v : DV) (e : Ending) (w' : World) : Prop :=
  ∃ (q : Nat) (y : St), Rd c l s q y w' ∧ Tn W w' [c, l] ∧ Lim x y ∧
    ((v.f = 0 ∧ (∃ r cb g, e = .returned (.tuple #[.pointer (some ⟨r, 0, none⟩), okF]) ∧ Ro r l cb g v.w v.h (rb v.l (v.w * v.h)) w' ∧ W.heap.size ≤ cb ∧ W.heap.size ≤ g) ∧ y.by_ = x.by_ + ((4 * (v.w * v.h) : Nat) : Int) ∧ y.r = 0 ∧ (v.w : Int) ≤ x.w ∧ (v.h : Int) ≤ x.h) ∨
     (v.f ≠ 0 ∧ e = .returned (.tuple #[.pointer none, flV v.f 3 v.p]) ∧ y.r = 0 ∧ y.by_ = x.by_) ∨
     ((x.w < v.w ∨ x.h < v.h ∨ x.b < x.by_ + ((4 * (v.w * v.h) : Nat) : Int) ∨ x.s < x.st + v.N) ∧ (∃ j : Nat, j ≤ s.size ∧ e = .returned (.tuple #[.pointer none, flV 4 3 j])) ∧ y.r ≠ 0 ∧ y.by_ = x.by_))

set_option maxRecDepth 100000 in
set_option maxHeartbeats 8000000 in
theorem dec_bad (c l : Nat) (s : ByteArray) (x : St) (W : World) (R : Rd c l s 0 x W) (hr : x.r = 0) (f p : Nat) (hV : readV s = ⟨0, 0, 0, 0, 0, f, p⟩) (hf : f ≠ 0) :
    Calls Tryz.prog 22 #[.pointer (some ⟨c, 0, none⟩)] W (DO W s c l x (dV s)) := by
  have hv : dV s = ⟨f, p, 0, 0, readN s, []⟩ := by unfold dV; rw [hV]; simp [hf]
  rw [hv]
  obtain ⟨Q, hQ⟩ : ∃ Q : Ending → World → Prop, DO W s c l x ⟨f, p, 0, 0, readN s, []⟩ = Q := ⟨_, rfl⟩
  rw [hQ]
  have HQ := Lib.hid hQ
  have KR := Lib.hid (fun u (R : Rd c l s 0 x u) => read_calls c l s x u R hr)
  have HR := Lib.hid R
  have HV := Lib.hid hV
  have hc := R.clt
  have hl := R.llt
  have HX := Lib.hid hr
  have d1 : ((f : Int) != 0) = true := by rw [bne_iff_ne]; omega
  have R0 := R.grown (World.grownBy_alloc W (.cells #[.int .i64 0, .int .i64 0, .int .i64 0] 34) none)
  have HR0 := Lib.hid R0
  have HF0 := Lib.hid (Fl.new W)
  have HT0 := Lib.hid (Tn.gb (World.grownBy_alloc W (.cells #[.int .i64 0, .int .i64 0, .int .i64 0] 34) none) (S := [c, l]) (by simp))
  clear R hv hQ hV hr R0
  go_enter Tryz.func22, Tryz.ntmps22
  go_wp2_with fail
  refine (KR.out _ HR0.out).mono ?_
  rintro e w3 ⟨q, hq, T3, ⟨rfl, hqa, R3⟩ | ⟨hno, rfl, R3⟩⟩
  · rw [HV.out]
    simp only [rdT, fmK_pos' hf]
    have G4 := gb_trans (World.grownBy_alloc w3 (.cells #[.int .i64 0, .int .i64 0, .int .i64 0, .int .i64 0, .int .i64 0] 70) none) (World.grownBy_alloc _ (.cells #[.int .i64 f, .int .i64 3, .int .i64 p] 34) none)
    have F4 : Fl (w3.heap.size + 1) f 3 p ((w3.alloc (.cells #[.int .i64 0, .int .i64 0, .int .i64 0, .int .i64 0, .int .i64 0] 70)).alloc (.cells #[.int .i64 f, .int .i64 3, .int .i64 p] 34)) := by
      rw [← size_alloc w3 (.cells #[.int .i64 0, .int .i64 0, .int .i64 0, .int .i64 0, .int .i64 0] 70)]
      exact blk_at
    have T4 := (HT0.out.trans T3).trans (Tn.gb G4 (by simp))
    have R4 := R3.grown G4
    have L4 := (HF0.out.turned T3 (by simp; omega)).turned (Tn.gb G4 (S := [c, l]) (by simp)) (by simp; omega)
    have z3 := T3.size
    have z0 : (W.alloc (.cells #[.int .i64 0, .int .i64 0, .int .i64 0] 34)).heap.size = W.heap.size + 1 := size_alloc _ _
    have p0 := F4.c0
    have p1 := F4.c1
    have p2 := F4.c2
    have q0 := L4.c0
    have q1 := L4.c1
    have q2 := L4.c2
    have qf0 := L4.free 0
    have qf1 := L4.free 1
    have qf2 := L4.free 2
    have m0 : ¬ w3.heap.size + 1 = W.heap.size := by omega
    have m1 : ¬ W.heap.size = w3.heap.size + 1 := by omega
    have HT4 := Lib.hid T4
    have HR4 := Lib.hid R4
    clear G4 F4 T4 R4 L4 T3 R3 z3 z0 HR HF0 HT0 KR
    go_wp2_with fail
    generalize ((w3.alloc (.cells #[.int .i64 0, .int .i64 0, .int .i64 0, .int .i64 0, .int .i64 0] 70)).alloc (.cells #[.int .i64 f, .int .i64 3, .int .i64 p] 34)) = w4 at p0 p1 p2 q0 q1 q2 qf0 qf1 qf2 HT4 HR4 ⊢
    go_region
    go_wp2
    refine bodyPost_ret (v := .tuple #[.pointer none, flV f 3 p]) (by simp only [results, Tryz.results22, flV]; go_simp) rfl ?_
    rw [← HQ.out]
    refine ⟨q, _, (rdt HR4.out (((Tn.refl w4 [W.heap.size]).st (by simp)).st (by simp) |>.st (by simp)) (by simp; omega) (by simp; omega)).grown (gb_drew _ _), (Tn.own1 (Tn.own1 (Tn.own1 HT4.out (Nat.le_refl _)) (Nat.le_refl _)) (Nat.le_refl _)).dr, ⟨rfl, rfl, rfl, rfl⟩, ?_⟩
    exact .inr (.inl ⟨hf, rfl, HX.out, rfl⟩)
  · simp only [fdT]
    have G4 := gb_trans (World.grownBy_alloc w3 (.cells #[.int .i64 0, .int .i64 0, .int .i64 0, .int .i64 0, .int .i64 0] 70) none) (World.grownBy_alloc _ (.cells #[.int .i64 4, .int .i64 3, .int .i64 q] 34) none)
    have F4 : Fl (w3.heap.size + 1) 4 3 q ((w3.alloc (.cells #[.int .i64 0, .int .i64 0, .int .i64 0, .int .i64 0, .int .i64 0] 70)).alloc (.cells #[.int .i64 4, .int .i64 3, .int .i64 q] 34)) := by
      rw [← size_alloc w3 (.cells #[.int .i64 0, .int .i64 0, .int .i64 0, .int .i64 0, .int .i64 0] 70)]
      exact blk_at
    have T4 := (HT0.out.trans T3).trans (Tn.gb G4 (by simp))
    have R4 := R3.grown G4
    have L4 := (HF0.out.turned T3 (by simp; omega)).turned (Tn.gb G4 (S := [c, l]) (by simp)) (by simp; omega)
    have z3 := T3.size
    have z0 : (W.alloc (.cells #[.int .i64 0, .int .i64 0, .int .i64 0] 34)).heap.size = W.heap.size + 1 := size_alloc _ _
    have p0 := F4.c0
    have p1 := F4.c1
    have p2 := F4.c2
    have q0 := L4.c0
    have q1 := L4.c1
    have q2 := L4.c2
    have qf0 := L4.free 0
    have qf1 := L4.free 1
    have qf2 := L4.free 2
    have m0 : ¬ w3.heap.size + 1 = W.heap.size := by omega
    have m1 : ¬ W.heap.size = w3.heap.size + 1 := by omega
    have HT4 := Lib.hid T4
    have HR4 := Lib.hid R4
    clear G4 F4 T4 R4 L4 T3 R3 z3 z0 HR HF0 HT0 KR
    go_wp2_with fail
    generalize ((w3.alloc (.cells #[.int .i64 0, .int .i64 0, .int .i64 0, .int .i64 0, .int .i64 0] 70)).alloc (.cells #[.int .i64 4, .int .i64 3, .int .i64 q] 34)) = w4 at p0 p1 p2 q0 q1 q2 qf0 qf1 qf2 HT4 HR4 ⊢
    go_region
    go_wp2
    refine bodyPost_ret (v := .tuple #[.pointer none, flV 4 3 q]) (by simp only [results, Tryz.results22, flV]; go_simp) rfl ?_
    rw [← HQ.out]
    refine ⟨q, _, (rdt HR4.out (((Tn.refl w4 [W.heap.size]).st (by simp)).st (by simp) |>.st (by simp)) (by simp; omega) (by simp; omega)).grown (gb_drew _ _), (Tn.own1 (Tn.own1 (Tn.own1 HT4.out (Nat.le_refl _)) (Nat.le_refl _)) (Nat.le_refl _)).dr, ⟨rfl, rfl, rfl, rfl⟩, ?_⟩
    exact .inr (.inr ⟨.inr (.inr (.inr hno)), ⟨q, hq, rfl⟩, (by show (3 : Int) ≠ 0; decide), rfl⟩)

end Go.Proofs.YtcfdippcobkbaaaGreat.Px

/- Package pnm: Decode of a file whose head is good, walked. -/
namespace Go.Proofs.YtcfdippcobkbaaaGreat.Px
open Go.ChangeShapes Go.WideShapes Go.ChangeAt Go.RowKit
open Go.Proofs.YtcfdippcobkbaaaGreat.Le Go.Proofs.YtcfdippcobkbaaaGreat.Tk Go.Proofs.YtcfdippcobkbaaaGreat.Sc Go.Proofs.YtcfdippcobkbaaaGreat.Sr Go.Proofs.YtcfdippcobkbaaaGreat.Ph Go.Proofs.YtcfdippcobkbaaaGreat.Ra
set_option linter.unusedVariables false

theorem dread_calls (k c l r cb g : Nat) (s : ByteArray) (x : St) (w h m a0 : Nat) (a : Int) (W : World) (hk : 1 ≤ k ∧ k ≤ 6) (fs : FS W [c, l] c l r cb g) (hw : w ≤ 16384) (hh : h ≤ 16384) (hm : 1 ≤ m ∧ m ≤ 65535) (hr : x.r = 0) (R0 : Rd c l s a0 x W) (O0 : Ro r l cb g w h (rb [] (w * h)) W) :
    Calls Tryz.prog (if k ≤ 3 then 38 else 47) #[.pointer (some ⟨c, 0, none⟩), .agg #[.int .i64 k, .int .i64 w, .int .i64 h, .int .i64 m, .int .i64 a], .pointer (some ⟨r, 0, none⟩)] W
      (FP2 W [c, l] c l r cb g s x w h (dz s k m w a0 (w * h))) := by
  unfold dz
  by_cases h3 : k ≤ 3
  · rw [if_pos h3, if_pos h3]
    exact tread_calls k c l r cb g s x w h m a0 a W (by omega) fs hw hh hm hr R0 O0
  · rw [if_neg h3, if_neg h3]
    exact rawread_calls k c l r cb g s x w h m a0 a W (by omega) fs hw hh hm hr R0 O0

theorem tn_own {a b d : World} {S T : List Nat} (h : Tn a b S) (k : Tn b d T) (hT : ∀ x, x ∈ T → x ∈ S ∨ a.heap.size ≤ x) : Tn a d S :=
  ⟨k.os.trans h.os, k.tape.trans h.tape, k.output.trans h.output, Nat.le_trans h.size k.size, fun i hi hr => (k.block i (Nat.lt_of_lt_of_le hi h.size) (fun hs => by
    rcases hT i hs with h1 | h1
    · exact hr h1
    · omega)).trans (h.block i hi hr)⟩
theorem give_end {x x1 y : St} {n : Int} {N : Nat} (L : Lim x x1) (hb : x1.by_ = x.by_ + n) (h0 : 0 ≤ x.by_) (hn : 0 ≤ n) (e : y = stp x1 N ∨ y = spent x1) :
    Lim x (y.give n).1 ∧ (y.give n).1.by_ = x.by_ ∧ (y.give n).1.r = y.r := by
  have h1 : y.by_ = x.by_ + n ∧ Lim x y := by
    rcases e with rfl | rfl
    · exact ⟨hb, ⟨L.w, L.h, L.b, L.s⟩⟩
    · exact ⟨hb, ⟨L.w, L.h, L.b, L.s⟩⟩
  obtain ⟨h1, h2⟩ := h1
  unfold St.give
  rw [if_neg (by omega)]
  exact ⟨⟨h2.w, h2.h, h2.b, h2.s⟩, by show y.by_ - n = x.by_; omega, rfl⟩
theorem dz_gd (s : ByteArray) (k m w a0 N : Nat) (ha : a0 ≤ s.size) (hm : 1 ≤ m) : L255 (dz s k m w a0 N).l ∧ (dz s k m w a0 N).l.length ≤ N ∧ (dz s k m w a0 N).n ≤ s.size + 6 * N ∧ (dz s k m w a0 N).f < 3 := by
  unfold dz
  split
  · have h := pxs_gd s k m a0 N ha hm
    exact ⟨h.1, h.2.1, h.2.2.1, h.2.2.2.1⟩
  · have h := rawZ_gd s k m w a0 N ha hm
    exact ⟨h.1, h.2.1, by omega, h.2.2.2.1⟩
theorem sides_no {x : St} {a b : Int} (hr : x.r = 0) (a1 : 1 ≤ a) (b1 : 1 ≤ b) (hn : x.w < a ∨ x.h < b) (ok : x.Ok) : (x.sides a b).2 = false ∧ Lim x (x.sides a b).1 ∧ (x.sides a b).1.r ≠ 0 ∧ (x.sides a b).1.by_ = x.by_ := by
  unfold St.sides
  rw [if_neg (fun h => h hr)]
  by_cases h1 : a < 1 ∨ x.w < a
  · rw [if_pos h1]
    unfold St.refuse
    rw [if_pos hr]
    exact ⟨rfl, ⟨rfl, rfl, rfl, rfl⟩, by show (1 : Int) ≠ 0; decide, rfl⟩
  · rw [if_neg h1, if_pos (by omega)]
    unfold St.refuse
    rw [if_pos hr]
    exact ⟨rfl, ⟨rfl, rfl, rfl, rfl⟩, by show (1 : Int) ≠ 0; decide, rfl⟩
theorem take_no {x : St} {n : Int} (hr : x.r = 0) (hn : x.b < x.by_ + n) : (x.take n).2 = false ∧ Lim x (x.take n).1 ∧ (x.take n).1.r ≠ 0 ∧ (x.take n).1.by_ = x.by_ := by
  unfold St.take
  rw [if_neg (fun h => h hr), if_pos (by omega)]
  unfold St.refuse
  rw [if_pos hr]
  exact ⟨rfl, ⟨rfl, rfl, rfl, rfl⟩, by show (2 : Int) ≠ 0; decide, rfl⟩
theorem new_no (l : Nat) (x : St) (a b : Nat) (w : World) (h : Led l x.ls w) (ok : x.Ok) (hr : x.r = 0) (a0 : 1 ≤ a) (a1 : a ≤ 16384) (b0 : 1 ≤ b) (b1 : b ≤ 16384) (hn : x.w < a ∨ x.h < b ∨ x.b < x.by_ + ((4 * (a * b) : Nat) : Int)) :
    Calls Tryz.prog 37 #[.pointer (some ⟨l, 0, none⟩), .int .i64 a, .int .i64 b] w
      fun e w' => e = .returned (.tuple #[.pointer none, .int .i64 4]) ∧ ∃ y, Led l y.ls w' ∧ y.Ok ∧ Lim x y ∧ y.r ≠ 0 ∧ y.by_ = x.by_ ∧ w.grownBy w' (some l) := by
  by_cases h1 : x.w < a ∨ x.h < b
  · obtain ⟨e1, e2, e3, e4⟩ := sides_no hr (by omega) (by omega) h1 ok
    exact (new_sides l x a b w h a0 a1 b0 b1 e1).mono fun e w' ⟨he, hL, hg⟩ => ⟨he, _, hL, ok.sides _ _, e2, e3, e4, hg⟩
  · obtain ⟨e1, e2, e3, e4⟩ := take_no hr (n := ((4 * (a * b) : Nat) : Int)) (by omega)
    exact (new_spent l x a b w h ok a0 a1 b0 b1 (sides_ok hr (by omega) (by omega) (by omega) (by omega)) e1).mono fun e w' ⟨he, hL, hg⟩ => ⟨he, _, hL, ok.take _, e2, e3, e4, hg⟩

set_option maxRecDepth 100000 in
set_option maxHeartbeats 8000000 in
theorem dec_good (c l : Nat) (s : ByteArray) (x : St) (W : World) (R : Rd c l s 0 x W) (hr : x.r = 0) (k w h m a : Nat) (hV : readV s = ⟨k, w, h, m, a, 0, 0⟩) (hg : HG s k w h m a) :
    Calls Tryz.prog 22 #[.pointer (some ⟨c, 0, none⟩)] W (DO W s c l x (dV s)) := by
  obtain ⟨z, hz⟩ : ∃ z, dz s k m w a (w * h) = z := ⟨_, rfl⟩
  have hv : dV s = ⟨z.f, z.p, w, h, readN s + z.n + w * h, z.l⟩ := by unfold dV; rw [hV]; simp only [if_pos, hz]
  rw [hv]
  obtain ⟨Q, hQ⟩ : ∃ Q : Ending → World → Prop, DO W s c l x ⟨z.f, z.p, w, h, readN s + z.n + w * h, z.l⟩ = Q := ⟨_, rfl⟩
  rw [hQ]
  have HQ := Lib.hid hQ
  have KR := Lib.hid (fun u (R : Rd c l s 0 x u) => read_calls c l s x u R hr)
  have HV := Lib.hid hV
  have HG := Lib.hid hg
  have hc := R.clt
  have hl := R.llt
  have HX := Lib.hid hr
  have HY0 := Lib.hid R.ok.y0
  have HZ := Lib.hid hz
  have hlen := (dz_gd s k m w a (w * h) hg.le hg.m1).2.1
  rw [hz] at hlen
  have HLEN := Lib.hid hlen
  have R0 := R.grown (World.grownBy_alloc W (.cells #[.int .i64 0, .int .i64 0, .int .i64 0] 34) none)
  have HR0 := Lib.hid R0
  have HF0 := Lib.hid (Fl.new W)
  have HT0 := Lib.hid (Tn.gb (World.grownBy_alloc W (.cells #[.int .i64 0, .int .i64 0, .int .i64 0] 34) none) (S := [c, l]) (by simp))
  clear R hv hQ hV hr R0 hg hz hlen
  go_enter Tryz.func22, Tryz.ntmps22
  go_wp2_with fail
  refine (KR.out _ HR0.out).mono ?_
  rintro e w3 ⟨q, hq, T3, ⟨rfl, hqa, R3⟩ | ⟨hno, rfl, R3⟩⟩
  · rw [HV.out] at hqa ⊢
    obtain rfl : q = a := hqa rfl
    have G4 := gb_trans (World.grownBy_alloc w3 (.cells #[.int .i64 k, .int .i64 w, .int .i64 h, .int .i64 m, .int .i64 q] 70) none) (World.grownBy_alloc _ (.cells #[.int .i64 0, .int .i64 0, .int .i64 0] 34) none)
    have H4 : Hc w3.heap.size k w h m q ((w3.alloc (.cells #[.int .i64 k, .int .i64 w, .int .i64 h, .int .i64 m, .int .i64 q] 70)).alloc (.cells #[.int .i64 0, .int .i64 0, .int .i64 0] 34)) := Hc.al blk_at _
    have F4 : Fl (w3.heap.size + 1) 0 0 0 ((w3.alloc (.cells #[.int .i64 k, .int .i64 w, .int .i64 h, .int .i64 m, .int .i64 q] 70)).alloc (.cells #[.int .i64 0, .int .i64 0, .int .i64 0] 34)) := by
      rw [← size_alloc w3 (.cells #[.int .i64 k, .int .i64 w, .int .i64 h, .int .i64 m, .int .i64 q] 70)]
      exact Fl.new _
    have T4 := (HT0.out.trans T3).trans (Tn.gb G4 (by simp))
    have R4 := R3.grown G4
    have L4 := (HF0.out.turned T3 (by simp; omega)).turned (Tn.gb G4 (S := [c, l]) (by simp)) (by simp; omega)
    have z3 := T3.size
    have z0 : (W.alloc (.cells #[.int .i64 0, .int .i64 0, .int .i64 0] 34)).heap.size = W.heap.size + 1 := size_alloc _ _
    have hw3 : W.heap.size + 1 ≤ w3.heap.size := by omega
    have z4 : ((w3.alloc (.cells #[.int .i64 k, .int .i64 w, .int .i64 h, .int .i64 m, .int .i64 q] 70)).alloc (.cells #[.int .i64 0, .int .i64 0, .int .i64 0] 34)).heap.size = w3.heap.size + 2 := by rw [size_alloc, size_alloc]
    have p0 := F4.c0
    have p1 := F4.c1
    have p2 := F4.c2
    have c0 := H4.c0
    have c1 := H4.c1
    have c2 := H4.c2
    have c3 := H4.c3
    have c4 := H4.c4
    have HT4 := Lib.hid T4
    have HR4 := Lib.hid R4
    have HL4 := Lib.hid L4
    have HH4 := Lib.hid H4
    have HF4 := Lib.hid F4
    clear G4 F4 H4 T4 R4 L4 T3 R3 z3 z0 HR0 HF0 HT0 KR hqa
    simp only [rdT, show ((fmK 0 : Nat) : Int) = 0 from rfl]
    go_wp2_with fail
    generalize ((w3.alloc (.cells #[.int .i64 k, .int .i64 w, .int .i64 h, .int .i64 m, .int .i64 q] 70)).alloc (.cells #[.int .i64 0, .int .i64 0, .int .i64 0] 34)) = w4 at p0 p1 p2 c0 c1 c2 c3 c4 HT4 HR4 HL4 HH4 HF4 z4 ⊢
    have hxr : (stp x (readN s)).r = 0 := HX.out
    have KL := Lib.hid (fun u (R : Rd c l s q (stp x (readN s)) u) => ledger_rd c l s q _ u R)
    by_cases hno : (stp x (readN s)).w < w ∨ (stp x (readN s)).h < h ∨ (stp x (readN s)).b < (stp x (readN s)).by_ + ((4 * (w * h) : Nat) : Int)
    · have KN := Lib.hid (fun u (R : Rd c l s q (stp x (readN s)) u) => new_no l (stp x (readN s)) w h u R.led R.ok hxr HG.out.w1 HG.out.w2 HG.out.h1 HG.out.h2 hno)
      have HNO := Lib.hid hno
      clear hno hxr
      go_region_held3 (fun w' => w'.cell? ⟨w3.heap.size, 1, none⟩ = some (.int .i64 w) ∧ w'.cell? ⟨w3.heap.size, 2, none⟩ = some (.int .i64 h)) (go_keep)
        (first
          | (go_at_call 48; refine (KL.out _ (HR4.out.grown (gb_drew _ _))).mono ?_; rintro e w' ⟨rfl, rfl⟩)
          | (go_at_call 37; refine (KN.out _ (HR4.out.grown (gb_drew _ _))).mono ?_; rintro e w5 ⟨rfl, y, L5, ok5, lim5, hy5, by5, g5⟩; have t5 : Tn w4 w5 [c, l] := (Tn.gb (gb_drew w4 none) (S := [c, l]) (by simp)).trans (Tn.gb g5 (by simp)); have t5l : Tn w4 w5 [l] := (Tn.gb (gb_drew w4 none) (S := [l]) (by simp)).trans (Tn.gb g5 (by simp)); have HH5 := Lib.hid (HH4.out.turned t5 (by simp; omega)); have kk0 := HH5.out.c1; have kk1 := HH5.out.c2))
      all_goals
        go_wp2_with fail
        have R5 : Rd c l s q y w5 := ⟨HR4.out.so.turned t5l (by simpa using HR4.out.so.bl), L5, ok5⟩
        have L9 := HL4.out.turned t5 (by simp; omega)
        have q0 := L9.c0
        have q1 := L9.c1
        have q2 := L9.c2
        have qf0 := L9.free 0
        have qf1 := L9.free 1
        have qf2 := L9.free 2
        have HT5 := Lib.hid (HT4.out.trans t5)
        have HR5 := Lib.hid R5
        have HY := Lib.hid (And.intro hy5 (And.intro by5 lim5))
        clear p0 p1 p2 c0 c1 c2 c3 c4 t5 t5l L5 g5 R5 L9 hy5 by5 lim5 ok5 KN KL kk0 kk1 HH4 HF4 HL4 HT4 HR4 HH5
        refine (at_rd c l s q y w5 HR5.out).mono ?_
        rintro e w' ⟨rfl, rfl⟩
        go_wp2_with fail
        refine bodyPost_ret (v := .tuple #[.pointer none, flV 4 3 q]) (by simp only [results, Tryz.results22, flV]; go_simp) rfl ?_
        rw [← HQ.out]
        refine ⟨q, y, rdt HR5.out ((((Tn.refl w5 [W.heap.size]).st (by simp)).st (by simp)).st (by simp)) (by simp; omega) (by simp; omega), (Tn.own1 (Tn.own1 (Tn.own1 HT5.out (Nat.le_refl _)) (Nat.le_refl _)) (Nat.le_refl _)), ⟨HY.out.2.2.w, HY.out.2.2.h, HY.out.2.2.b, HY.out.2.2.s⟩, .inr (.inr ⟨?_, ⟨q, hq, rfl⟩, HY.out.1, HY.out.2.1⟩)⟩
        rcases HNO.out with h1 | h1 | h1
        · exact .inl h1
        · exact .inr (.inl h1)
        · exact .inr (.inr (.inl h1))
    · have hsd : (stp x (readN s)).sides w h = (stp x (readN s), true) := sides_ok hxr (by have := HG.out.w1; omega) (by omega) (by have := HG.out.h1; omega) (by omega)
      have hbb : ((4 * (w * h) : Nat) : Int) ≤ (stp x (readN s)).b - (stp x (readN s)).by_ := by omega
      have hlm : (w : Int) ≤ x.w ∧ (h : Int) ≤ x.h := by
        have e1 : (stp x (readN s)).w = x.w := rfl
        have e2 : (stp x (readN s)).h = x.h := rfl
        rw [e1, e2] at hno
        omega
      have htk := tk_take (n := ((4 * (w * h) : Nat) : Int)) hxr (by omega) hbb
      have hok := tk_ok HR4.out.ok hxr (n := ((4 * (w * h) : Nat) : Int)) (by omega) hbb
      obtain ⟨x1, hx1⟩ : ∃ x1, tk (stp x (readN s)) ((4 * (w * h) : Nat) : Int) = x1 := ⟨_, rfl⟩
      have KN : ∀ u, Rd c l s q (stp x (readN s)) u → Calls Tryz.prog 37 #[.pointer (some ⟨l, 0, none⟩), .int .i64 w, .int .i64 h] u
          fun e w' => ∃ r c g, e = .returned (.tuple #[.pointer (some ⟨r, 0, none⟩), .int .i64 0]) ∧ Ro r l c g w h (Bu.rep 0 (4 * (w * h))) w' ∧ Led l x1.ls w' ∧ u.grownBy w' (some l) ∧ u.heap.size ≤ r ∧ u.heap.size ≤ c ∧ u.heap.size ≤ g := fun u R => by
        have K := new_yes l (stp x (readN s)) w h u R.led R.ok HG.out.w1 HG.out.w2 HG.out.h1 HG.out.h2 hsd (by rw [htk])
        rw [htk, hx1] at K
        exact K
      rw [hx1] at hok
      have f1 : x1.r = 0 ∧ x1.s = x.s ∧ x1.st = x.st + (readN s : Int) ∧ x1.by_ = x.by_ + ((4 * (w * h) : Nat) : Int) ∧ Lim x x1 := by
        rw [← hx1]
        exact ⟨hxr, rfl, rfl, rfl, ⟨rfl, rfl, rfl, rfl⟩⟩
      have H1 := Lib.hid f1
      have HLM := Lib.hid hlm
      have HOK := Lib.hid hok
      have HKN := Lib.hid KN
      clear hsd hbb htk hok KN f1 hlm hno hxr hx1
      go_region_held3 (fun w' => w'.cell? ⟨w3.heap.size, 1, none⟩ = some (.int .i64 w) ∧ w'.cell? ⟨w3.heap.size, 2, none⟩ = some (.int .i64 h)) (go_keep)
        (first
          | (go_at_call 48; refine (KL.out _ (HR4.out.grown (gb_drew _ _))).mono ?_; rintro e w' ⟨rfl, rfl⟩)
          | (go_at_call 37; refine (HKN.out _ (HR4.out.grown (gb_drew _ _))).mono ?_; rintro e w5 ⟨r, cb, g, rfl, O5, L5, g5, hr5, hcb5, hg5⟩; have t5l : Tn w4 w5 [l] := (Tn.gb (gb_drew w4 none) (S := [l]) (by simp)).trans (Tn.gb g5 (by simp)); have HH5 := Lib.hid (HH4.out.turned t5l (by simp; omega)); have kk0 := HH5.out.c1; have kk1 := HH5.out.c2))
      all_goals
        have hr5 : w4.heap.size ≤ r := hr5
        have hcb5 : w4.heap.size ≤ cb := hcb5
        have hg5 : w4.heap.size ≤ g := hg5
        have R5 : Rd c l s q x1 w5 := ⟨HR4.out.so.turned t5l (by simpa using HR4.out.so.bl), L5, HOK.out⟩
        have L9 := HL4.out.turned t5l (by simp; omega)
        have F9 := HF4.out.turned t5l (by simp; omega)
        have T5 := HT4.out.trans (t5l.mono (fun a ha => by simp at ha; simp [ha]) : Tn w4 w5 [c, l])
        have rlt := O5.lt
        have clt := O5.buf.lt
        have glt := O5.buf.glt
        have hbg := O5.buf.bg
        have hrg := O5.rg
        have z5 := t5l.size
        have fs : FS w5 [c, l] c l r cb g := ⟨by simp; omega, by simp, by simp, by simp; omega, by simp; omega, by simp; omega, hrg, hbg, glt, rlt, clt⟩
        have hz5 : rb [] (w * h) = Bu.rep 0 (4 * (w * h)) := rb_nil _
        have K0 := dread_calls k c l r cb g s x1 w h m q (q : Int) w5 ⟨HG.out.k1, HG.out.k6⟩ fs HG.out.w2 HG.out.h2 ⟨HG.out.m1, HG.out.m2⟩ H1.out.1 R5 (by rw [hz5]; exact O5)
        rw [HZ.out] at K0
        clear c0 c1 c2 c3 c4 p0 p1 p2 kk0 kk1
        have c0 := HH5.out.c0
        have c1 := HH5.out.c1
        have c2 := HH5.out.c2
        have c3 := HH5.out.c3
        have c4 := HH5.out.c4
        have HT5 := Lib.hid T5
        have HL5 := Lib.hid L9
        have HF5 := Lib.hid F9
        have HS5 := Lib.hid (And.intro hr5 (And.intro hcb5 (And.intro hg5 (And.intro glt z5))))
        clear R5 L9 F9 T5 rlt clt glt hbg hrg z5 fs hz5 O5 L5 g5 hr5 hcb5 hg5 t5l HH4 HF4 HL4 HT4 HR4 HKN KL
        by_cases hk3 : k ≤ 3
        all_goals first | rw [if_pos hk3] at K0 | rw [if_neg hk3] at K0
        all_goals
          have hT : rgB 1 3 (k : Int) = decide (k ≤ 3) := by
            have := HG.out.k1
            by_cases h3 : k ≤ 3
            · rw [(rgB_iff 1 3 _).2 (by omega), decide_eq_true h3]
            · rw [(rgB_not 1 3 _).2 (by omega), decide_eq_false h3]
          have KT := text_calls (k : Int) w5
          rw [hT] at KT
          simp only [hk3, decide_true, decide_false] at KT
          have HK0 := Lib.hid K0
          have HKT := Lib.hid KT
          clear KT hT K0
          go_wp2_with fail
          refine HKT.out.mono ?_
          rintro e w' ⟨rfl, rfl⟩
          go_wp2_with fail
          refine HK0.out.mono ?_
          rintro e w6 ⟨T6, H6⟩
          have zz := HS5.out
          have L6 := HL5.out.turned T6 (by simp; omega)
          have F6 := HF5.out.turned T6 (by simp; omega)
          clear c0 c1 c2 c3 c4
          have q0 := L6.c0
          have q1 := L6.c1
          have q2 := L6.c2
          have qf0 := L6.free 0
          have qf1 := L6.free 1
          have qf2 := L6.free 2
          have p0 := F6.c0
          have p1 := F6.c1
          have p2 := F6.c2
          have pf0 := F6.free 0
          have pf1 := F6.free 1
          have pf2 := F6.free 2
          have m0 : ¬ w3.heap.size + 1 = W.heap.size := by omega
          have m1 : ¬ W.heap.size = w3.heap.size + 1 := by omega
          have HT6 := Lib.hid (tn_own HT5.out T6 (by simp; omega))
          have z6 := T6.size
          have HL6 := Lib.hid L6
          have HF6 := Lib.hid F6
          clear L6 F6 T6 HK0 HKT HT5
          rcases H6 with ⟨z0, rfl, R6, O6⟩ | ⟨fk, fm, fa, qq, y, R0, bd, rfl, R6, O6⟩
          · have HO6 := Lib.hid O6
            have HR6 := Lib.hid R6
            clear O6 R6
            simp only [okF]
            go_wp2_with fail
            refine bodyPost_ret (v := .tuple #[.pointer (some ⟨r, 0, none⟩), okF]) (by simp only [results, Tryz.results22, okF]; go_simp) rfl ?_
            rw [← HQ.out]
            have TB : Tn w6 ((((((w6.setCell ⟨w3.heap.size + 1, 0, none⟩ (.int .i64 0)).setCell ⟨w3.heap.size + 1, 1, none⟩ (.int .i64 0)).setCell ⟨w3.heap.size + 1, 2, none⟩ (.int .i64 0)).setCell ⟨W.heap.size, 0, none⟩ (.int .i64 0)).setCell ⟨W.heap.size, 1, none⟩ (.int .i64 0)).setCell ⟨W.heap.size, 2, none⟩ (.int .i64 0)) [w3.heap.size + 1, W.heap.size] := ((((((Tn.refl _ _).st (by simp)).st (by simp)).st (by simp)).st (by simp)).st (by simp)).st (by simp)
            have l1 := H1.out.2.2.2.2
            exact ⟨z.a, _, rdt HR6.out TB (by simp; omega) (by simp; omega), tn_own HT6.out TB (by simp; omega), ⟨l1.w, l1.h, l1.b, l1.s⟩, .inl ⟨z0, ⟨r, cb, g, rfl, ro_turn HO6.out TB (by simp; omega) (by simp; omega) (by simp; omega), by omega, by omega⟩, H1.out.2.2.2.1, H1.out.1, HLM.out.1, HLM.out.2⟩⟩
          · have hk := bd.kne
            have d2 : (fk != 0) = true := by rw [bne_iff_ne]; exact hk
            have HO6 := Lib.hid O6
            have HR6 := Lib.hid R6
            have HBD := Lib.hid bd
            clear O6 R6 bd
            go_wp2_with fail
            have TT : Tn w6 (((w6.setCell ⟨w3.heap.size + 1, 0, none⟩ (.int .i64 fk)).setCell ⟨w3.heap.size + 1, 1, none⟩ (.int .i64 fm)).setCell ⟨w3.heap.size + 1, 2, none⟩ (.int .i64 fa)) [w3.heap.size + 1] := (((Tn.refl _ _).st (by simp)).st (by simp)).st (by simp)
            have HR7 := Lib.hid (rdt HR6.out TT (by simp; omega) (by simp; omega))
            have HO7 := Lib.hid (ro_turn HO6.out TT (by simp; omega) (by simp; omega) (by simp; omega))
            have HT7 := Lib.hid (tn_own HT6.out TT (by simp; omega))
            have HL7 := Lib.hid (HL6.out.turned TT (by simp; omega))
            have HF7 := Lib.hid (HF6.out.set fk fm fa)
            have z7 := TT.size
            clear TT p0 p1 p2 pf0 pf1 pf2 q0 q1 q2 qf0 qf1 qf2 HR6 HO6 HT6 HL6 HF6
            generalize ((w6.setCell ⟨w3.heap.size + 1, 0, none⟩ (.int .i64 fk)).setCell ⟨w3.heap.size + 1, 1, none⟩ (.int .i64 fm)).setCell ⟨w3.heap.size + 1, 2, none⟩ (.int .i64 fa) = w7 at HR7 HO7 HT7 HL7 HF7 z7 ⊢
            refine (rfree_yes r l cb g w h _ y w7 HO7.out HR7.out.led HR7.out.ok).mono ?_
            rintro e w8 ⟨rfl, L8, T8⟩
            have L9 := HL7.out.turned T8 (by simp; omega)
            have F9 := HF7.out.turned T8 (by simp; omega)
            have q0 := L9.c0
            have q1 := L9.c1
            have q2 := L9.c2
            have qf0 := L9.free 0
            have qf1 := L9.free 1
            have qf2 := L9.free 2
            have p0 := F9.c0
            have p1 := F9.c1
            have p2 := F9.c2
            have pf0 := F9.free 0
            have pf1 := F9.free 1
            have pf2 := F9.free 2
            have HR8 := Lib.hid (Rd.mk (HR7.out.so.turned T8 (by have := HR7.out.so.bl; simp; omega)) L8 (HR7.out.ok.give _))
            have HT8 := Lib.hid (tn_own HT7.out T8 (by simp; omega))
            have hsz := HO7.out.sz
            have HSZ := Lib.hid hsz
            clear L9 F9 L8 T8 HR7 HO7 HT7 HL7 HF7 hsz
            go_wp2_with fail
            go_region
            go_wp2
            refine bodyPost_ret (v := .tuple #[.pointer none, flV fk fm fa]) (by simp only [results, Tryz.results22, flV]; go_simp) rfl ?_
            rw [← HQ.out]
            obtain ⟨hqq, hB⟩ := HBD.out
            have e8 := (give_end (N := z.n + z.l.length) (n := ((4 * (w * h) : Nat) : Int)) H1.out.2.2.2.2 H1.out.2.2.2.1 HY0.out (by omega) (by
              rcases hB with h | h
              · exact .inl h.2.2.2.2
              · exact .inr h.2.2.2.2))
            rw [← HSZ.out] at e8
            refine ⟨qq, _, rdt HR8.out ((((Tn.refl w8 [W.heap.size]).st (by simp)).st (by simp)).st (by simp)).dr (by simp; omega) (by simp; omega), (Tn.own1 (Tn.own1 (Tn.own1 HT8.out (Nat.le_refl _)) (Nat.le_refl _)) (Nat.le_refl _)).dr, e8.1, .inr ?_⟩
            rcases hB with ⟨b1, b2, b3, b4, b5⟩ | ⟨b1, b2, b3, b4, b5⟩
            · refine .inl ⟨b1, by rw [b2, b3, b4], ?_, e8.2.1⟩
              rw [e8.2.2, b5]
              exact H1.out.1
            · refine .inr ⟨.inr (.inr (.inr ?_)), ⟨qq, hqq, by rw [b2, b3, b4]⟩, ?_, e8.2.1⟩
              · have h1 := HLEN.out
                rw [H1.out.2.1, H1.out.2.2.1] at b1
                have h2 : ((readN s + (z.n + z.l.length) : Nat) : Int) ≤ ((readN s + z.n + w * h : Nat) : Int) := Int.ofNat_le.2 (by rw [Nat.add_assoc]; exact Nat.add_le_add_left (Nat.add_le_add_left h1 _) _)
                show x.s < x.st + ((readN s + z.n + w * h : Nat) : Int)
                omega
              · rw [e8.2.2, b5]
                show (3 : Int) ≠ 0
                decide
  · simp only [fdT]
    have G4 := gb_trans (World.grownBy_alloc w3 (.cells #[.int .i64 0, .int .i64 0, .int .i64 0, .int .i64 0, .int .i64 0] 70) none) (World.grownBy_alloc _ (.cells #[.int .i64 4, .int .i64 3, .int .i64 q] 34) none)
    have F4 : Fl (w3.heap.size + 1) 4 3 q ((w3.alloc (.cells #[.int .i64 0, .int .i64 0, .int .i64 0, .int .i64 0, .int .i64 0] 70)).alloc (.cells #[.int .i64 4, .int .i64 3, .int .i64 q] 34)) := by
      rw [← size_alloc w3 (.cells #[.int .i64 0, .int .i64 0, .int .i64 0, .int .i64 0, .int .i64 0] 70)]
      exact blk_at
    have T4 := (HT0.out.trans T3).trans (Tn.gb G4 (by simp))
    have R4 := R3.grown G4
    have L4 := (HF0.out.turned T3 (by simp; omega)).turned (Tn.gb G4 (S := [c, l]) (by simp)) (by simp; omega)
    have z3 := T3.size
    have z0 : (W.alloc (.cells #[.int .i64 0, .int .i64 0, .int .i64 0] 34)).heap.size = W.heap.size + 1 := size_alloc _ _
    have p0 := F4.c0
    have p1 := F4.c1
    have p2 := F4.c2
    have q0 := L4.c0
    have q1 := L4.c1
    have q2 := L4.c2
    have qf0 := L4.free 0
    have qf1 := L4.free 1
    have qf2 := L4.free 2
    have m0 : ¬ w3.heap.size + 1 = W.heap.size := by omega
    have m1 : ¬ W.heap.size = w3.heap.size + 1 := by omega
    have HT4 := Lib.hid T4
    have HR4 := Lib.hid R4
    clear G4 F4 T4 R4 L4 T3 R3 z3 z0 HR0 HF0 HT0 KR
    go_wp2_with fail
    generalize ((w3.alloc (.cells #[.int .i64 0, .int .i64 0, .int .i64 0, .int .i64 0, .int .i64 0] 70)).alloc (.cells #[.int .i64 4, .int .i64 3, .int .i64 q] 34)) = w4 at p0 p1 p2 q0 q1 q2 qf0 qf1 qf2 HT4 HR4 ⊢
    go_region
    go_wp2
    refine bodyPost_ret (v := .tuple #[.pointer none, flV 4 3 q]) (by simp only [results, Tryz.results22, flV]; go_simp) rfl ?_
    rw [← HQ.out]
    refine ⟨q, _, (rdt HR4.out (((Tn.refl w4 [W.heap.size]).st (by simp)).st (by simp) |>.st (by simp)) (by simp; omega) (by simp; omega)).grown (gb_drew _ _), (Tn.own1 (Tn.own1 (Tn.own1 HT4.out (Nat.le_refl _)) (Nat.le_refl _)) (Nat.le_refl _)).dr, ⟨rfl, rfl, rfl, rfl⟩, ?_⟩
    refine .inr (.inr ⟨.inr (.inr (.inr ?_)), ⟨q, hq, rfl⟩, (by show (3 : Int) ≠ 0; decide), rfl⟩)
    have h2 : ((readN s : Nat) : Int) ≤ ((readN s + z.n + w * h : Nat) : Int) := Int.ofNat_le.2 (by rw [Nat.add_assoc]; exact Nat.le_add_right _ _)
    show x.s < x.st + ((readN s + z.n + w * h : Nat) : Int)
    omega

end Go.Proofs.YtcfdippcobkbaaaGreat.Px
