/- Texts of one kind, one behind the other: Tga7, Tga8, TrB. -/
import Derived.Test.YtnieeckdldpebaaGreatG23
import Derived.Test.YtnieeckdldpebaaGreatG24
/- Layer 16: two heads compared; Bytes, walked. -/
namespace Go.Proofs.YtnieeckdldpebaaGreat.Tg
open Go.ChangeShapes Go.WideShapes Go.ChangeAt Go.RowKit
open Go.Proofs.YtnieeckdldpebaaGreat.Le Go.Proofs.YtnieeckdldpebaaGreat.Sr
set_option linter.unusedVariables false

theorem eq_step {p q : Prop} [Decidable p] [Decidable q] {w : World} {R : Result Value} (h : R = .ok (.bool (decide q)) w) : (if p then R else .ok (.bool false) w) = .ok (.bool (decide (p ∧ q))) w := by
  by_cases hp : p
  · rw [if_pos hp, h]; simp [hp]
  · rw [if_neg hp]; simp [hp]
theorem eq_last {p : Prop} [Decidable p] {w : World} : (if p then Result.ok (Value.bool true) w else .ok (.bool false) w) = .ok (.bool (decide p)) w := by
  by_cases hp : p
  · rw [if_pos hp]; simp [hp]
  · rw [if_neg hp]; simp [hp]
theorem dn1 {w : World} {b : Nat} {x : Option Obj} (h : w.heap[b]? = x) : w.drew.heap[b]? = x := h
theorem neq_step {p q : Prop} [Decidable p] [Decidable q] {w : World} {R : Result Value} (h : R = .ok (.bool (!decide q)) w) : (if p then R else .ok (.bool true) w) = .ok (.bool (!decide (p ∧ q))) w := by
  by_cases hp : p
  · rw [if_pos hp, h]; simp [hp]
  · rw [if_neg hp]; simp [hp]
theorem neq_last {p : Prop} [Decidable p] {w : World} : (if p then Result.ok (Value.bool false) w else .ok (.bool true) w) = .ok (.bool (!decide p)) w := by
  by_cases hp : p
  · rw [if_pos hp]; simp [hp]
  · rw [if_neg hp]; simp [hp]
def hEq (a0 a2 a3 a4 a5 a6 a7 a8 a9 b0 b2 b3 b4 b5 b6 b7 b8 b9 : Int) (m l t m' l' t' : Bool) : Bool :=
  decide (a0 = b0 ∧ m = m' ∧ a2 = b2 ∧ a3 = b3 ∧ a4 = b4 ∧ a5 = b5 ∧ a6 = b6 ∧ a7 = b7 ∧ a8 = b8 ∧ a9 = b9 ∧ l = l' ∧ t = t')
set_option maxRecDepth 100000 in
theorem head_eql (a0 a2 a3 a4 a5 a6 a7 a8 a9 b0 b2 b3 b4 b5 b6 b7 b8 b9 : Int) (m l t m' l' t' : Bool) (w : World) :
    (binOp .eql 55 (.agg #[.int .i64 a0, .bool m, .int .i64 a2, .int .i64 a3, .int .i64 a4, .int .i64 a5, .int .i64 a6, .int .i64 a7, .int .i64 a8, .int .i64 a9, .bool l, .bool t]) (.agg #[.int .i64 b0, .bool m', .int .i64 b2, .int .i64 b3, .int .i64 b4, .int .i64 b5, .int .i64 b6, .int .i64 b7, .int .i64 b8, .int .i64 b9, .bool l', .bool t'])).run Tryz.prog w = .ok (.bool (hEq a0 a2 a3 a4 a5 a6 a7 a8 a9 b0 b2 b3 b4 b5 b6 b7 b8 b9 m l t m' l' t')) w := by
  go_simp
  unfold hEq
  exact eq_step (eq_step (eq_step (eq_step (eq_step (eq_step (eq_step (eq_step (eq_step (eq_step (eq_step eq_last))))))))))

set_option maxRecDepth 100000 in
theorem head_neq (a0 a2 a3 a4 a5 a6 a7 a8 a9 b0 b2 b3 b4 b5 b6 b7 b8 b9 : Int) (m l t m' l' t' : Bool) (w : World) :
    (binOp .neq 55 (.agg #[.int .i64 a0, .bool m, .int .i64 a2, .int .i64 a3, .int .i64 a4, .int .i64 a5, .int .i64 a6, .int .i64 a7, .int .i64 a8, .int .i64 a9, .bool l, .bool t]) (.agg #[.int .i64 b0, .bool m', .int .i64 b2, .int .i64 b3, .int .i64 b4, .int .i64 b5, .int .i64 b6, .int .i64 b7, .int .i64 b8, .int .i64 b9, .bool l', .bool t'])).run Tryz.prog w = .ok (.bool (!(hEq a0 a2 a3 a4 a5 a6 a7 a8 a9 b0 b2 b3 b4 b5 b6 b7 b8 b9 m l t m' l' t'))) w := by
  go_simp
  unfold hEq
  exact neq_step (neq_step (neq_step (neq_step (neq_step (neq_step (neq_step (neq_step (neq_step (neq_step (neq_step neq_last))))))))))

/-- Bytes: none, or eighteen that tell this head. -/
def BP (W : World) (H : Array Value) (e : Ending) (w' : World) : Prop :=
  W.grownBy w' none ∧ ((e = .returned (.tuple #[.string ⟨#[]⟩, .int .i64 6])) ∨ ∃ z : ByteArray, z.size = 18 ∧ Ck z 12 ∧ hA z = H ∧ e = .returned (.tuple #[.string z, .int .i64 0]))

theorem hEq_yes (z : ByteArray) (n0 n2 n3 n4 n5 n6 n7 n8 n9 : Int) (mp lf tp : Bool) (h : hEq (bn z 0) (bn z 2) (fst z) (cnt z) (ent z) (wd z 12) (wd z 14) (bn z 16) (alp z) n0 n2 n3 n4 n5 n6 n7 n8 n9 (mpB z) (lft z) (tpp z) mp lf tp = true) :
    hA z = #[.int .i64 n0, .bool mp, .int .i64 n2, .int .i64 n3, .int .i64 n4, .int .i64 n5, .int .i64 n6, .int .i64 n7, .int .i64 n8, .int .i64 n9, .bool lf, .bool tp] := by
  obtain ⟨h0, h1, h2, h3, h4, h5, h6, h7, h8, h9, h10, h11⟩ := of_decide_eq_true h
  unfold hA
  rw [h0, h1, h2, h3, h4, h5, h6, h7, h8, h9, h10, h11]
theorem kd_23 (K : Nat) (h : K < 12) : kdK K = 2 ∨ kdK K = 3 := by
  obtain rfl | rfl | rfl | rfl | rfl | rfl | rfl | rfl | rfl | rfl | rfl | rfl : K = 0 ∨ K = 1 ∨ K = 2 ∨ K = 3 ∨ K = 4 ∨ K = 5 ∨ K = 6 ∨ K = 7 ∨ K = 8 ∨ K = 9 ∨ K = 10 ∨ K = 11 := by omega
  all_goals decide
set_option maxRecDepth 100000 in
set_option maxHeartbeats 4000000 in
theorem bytes_calls (n0 n2 n3 n4 n5 n6 n7 n8 n9 : Int) (mp lf tp : Bool) (W : World) :
    Calls Tryz.prog 21 #[.agg #[.int .i64 n0, .bool mp, .int .i64 n2, .int .i64 n3, .int .i64 n4, .int .i64 n5, .int .i64 n6, .int .i64 n7, .int .i64 n8, .int .i64 n9, .bool lf, .bool tp]] W
      (BP W #[.int .i64 n0, .bool mp, .int .i64 n2, .int .i64 n3, .int .i64 n4, .int .i64 n5, .int .i64 n6, .int .i64 n7, .int .i64 n8, .int .i64 n9, .bool lf, .bool tp]) := by
  have KT := Lib.hid (fun u => text_calls n0 n2 n3 n4 n5 n6 n7 n8 n9 mp lf tp u)
  go_enter Tryz.func21, Tryz.ntmps21
  go_wp2_with fail
  refine (KT.out _).mono ?_
  rintro e w1 ⟨z, rfl, hz, g1⟩
  have HB1 := Lib.hid (show w1.heap[W.heap.size]? = some (.cells #[.int .i64 n0, .bool mp, .int .i64 n2, .int .i64 n3, .int .i64 n4, .int .i64 n5, .int .i64 n6, .int .i64 n7, .int .i64 n8, .int .i64 n9, .bool lf, .bool tp] 55 (0, 0)) from old1 g1 (by simp))
  have G1 := Lib.hid (gb_trans (World.grownBy_alloc _ _ _) g1)
  obtain ⟨K, C⟩ := ck_ex z
  have HZ := Lib.hid hz
  have HC := Lib.hid C
  have KW := Lib.hid (fun u => wrong_calls z K u (by omega) (by omega) C)
  have KF0 := fun u => fields_calls z u (by omega) (by omega)
  unfold hA at KF0
  have KF := Lib.hid KF0
  clear g1 C KT hz KF0
  go_wp2_with fail
  refine (KW.out _).mono ?_
  rintro e w2 ⟨rfl, g2⟩
  have G2 := Lib.hid (gb_trans G1.out g2)
  have HB2 := Lib.hid (old0 g2 HB1.out (blk_lt HB1.out) (by simp))
  clear g2 KW HB1
  by_cases hK : K = 12
  · subst hK
    have k0 : (kdK 12 == 0) = true := rfl
    have k0' : (kdK 12 != 0) = false := rfl
    have hq := fun u => head_eql (bn z 0) (bn z 2) (fst z) (cnt z) (ent z) (wd z 12) (wd z 14) (bn z 16) (alp z) n0 n2 n3 n4 n5 n6 n7 n8 n9 (mpB z) (lft z) (tpp z) mp lf tp u
    obtain ⟨d, hd⟩ : ∃ d, hEq (bn z 0) (bn z 2) (fst z) (cnt z) (ent z) (wd z 12) (wd z 14) (bn z 16) (alp z) n0 n2 n3 n4 n5 n6 n7 n8 n9 (mpB z) (lft z) (tpp z) mp lf tp = d := ⟨_, rfl⟩
    simp only [hd] at hq
    have HD := Lib.hid hd
    clear hd
    have HQ := Lib.hid hq
    clear hq
    obtain ⟨kk, hkk⟩ : ∃ x, kdK 12 = x := ⟨_, rfl⟩
    rw [hkk] at k0 k0' ⊢
    clear hkk
    have hne := fun u => head_neq (bn z 0) (bn z 2) (fst z) (cnt z) (ent z) (wd z 12) (wd z 14) (bn z 16) (alp z) n0 n2 n3 n4 n5 n6 n7 n8 n9 (mpB z) (lft z) (tpp z) mp lf tp u
    simp only [HD.out] at hne
    have c0 := blk_cell HB2.out 0
    have c1 := blk_cell HB2.out 1
    have c2 := blk_cell HB2.out 2
    have c3 := blk_cell HB2.out 3
    have c4 := blk_cell HB2.out 4
    have c5 := blk_cell HB2.out 5
    have c6 := blk_cell HB2.out 6
    have c7 := blk_cell HB2.out 7
    have c8 := blk_cell HB2.out 8
    have c9 := blk_cell HB2.out 9
    have c10 := blk_cell HB2.out 10
    have c11 := blk_cell HB2.out 11
    have clt := blk_lt HB2.out
    go_wp2_with fail
    go_region_held3 (fun w' => w'.cell? ⟨W.heap.size, 0, none⟩ = some (.int .i64 n0) ∧ w'.cell? ⟨W.heap.size, 1, none⟩ = some (.bool mp) ∧ w'.cell? ⟨W.heap.size, 2, none⟩ = some (.int .i64 n2) ∧ w'.cell? ⟨W.heap.size, 3, none⟩ = some (.int .i64 n3) ∧ w'.cell? ⟨W.heap.size, 4, none⟩ = some (.int .i64 n4) ∧ w'.cell? ⟨W.heap.size, 5, none⟩ = some (.int .i64 n5) ∧ w'.cell? ⟨W.heap.size, 6, none⟩ = some (.int .i64 n6) ∧ w'.cell? ⟨W.heap.size, 7, none⟩ = some (.int .i64 n7) ∧ w'.cell? ⟨W.heap.size, 8, none⟩ = some (.int .i64 n8) ∧ w'.cell? ⟨W.heap.size, 9, none⟩ = some (.int .i64 n9) ∧ w'.cell? ⟨W.heap.size, 10, none⟩ = some (.bool lf) ∧ w'.cell? ⟨W.heap.size, 11, none⟩ = some (.bool tp)) (go_keep)
      (first | (go_at_call 45; refine (KF.out _).mono ?_; rintro e w3 ⟨rfl, g3⟩; have G3 := Lib.hid (gb_trans (gb_trans G2.out (gb_drew _ _)) g3); have HB3 := Lib.hid (old0 g3 (dn1 HB2.out) (blk_lt (dn1 HB2.out)) (by simp)); have k0 := blk_cell HB3.out 0; have k1 := blk_cell HB3.out 1; have k2 := blk_cell HB3.out 2; have k3 := blk_cell HB3.out 3; have k4 := blk_cell HB3.out 4; have k5 := blk_cell HB3.out 5; have k6 := blk_cell HB3.out 6; have k7 := blk_cell HB3.out 7; have k8 := blk_cell HB3.out 8; have k9 := blk_cell HB3.out 9; have k10 := blk_cell HB3.out 10; have k11 := blk_cell HB3.out 11))
    all_goals
      clear c0 c1 c2 c3 c4 c5 c6 c7 c8 c9 c10 c11 k0 k1 k2 k3 k4 k5 k6 k7 k8 k9 k10 k11
      have HOK := Lib.hid (fun h : d = true => hEq_yes z n0 n2 n3 n4 n5 n6 n7 n8 n9 mp lf tp (HD.out.trans h))
      cases d
      · go_wp2
        go_ret2
        exact ⟨G3.out, .inl rfl⟩
      · go_wp2
        go_ret2
        exact ⟨G3.out, .inr ⟨z, HZ.out, HC.out, HOK.out (by trivial), rfl⟩⟩
  · have k23 : kdK K = 2 ∨ kdK K = 3 := kd_23 K (by have := HC.out.le; omega)
    rcases k23 with k0 | k0
    all_goals
      rw [k0]
      clear k0 hK HC
      go_wp2_with fail
      go_quiet (fail)
      all_goals
        go_wp2
        go_ret2
        exact ⟨gb_trans G2.out (gb_drewN _ _ _), .inl rfl⟩

end Go.Proofs.YtnieeckdldpebaaGreat.Tg

/- Layer 16: the code's Read of a head, walked (written by tga8.py). -/
namespace Go.Proofs.YtnieeckdldpebaaGreat.Tg
open Go.ChangeShapes Go.WideShapes Go.ChangeAt Go.RowKit
open Go.Proofs.YtnieeckdldpebaaGreat.Le Go.Proofs.YtnieeckdldpebaaGreat.Sr
set_option linter.unusedVariables false

/-- A block made since may be written. -/
theorem tn_own1 {a b : World} {S : List Nat} {k i : Nat} {v : Value} (h : Tn a b S) (hk : a.heap.size ≤ k) : Tn a (b.setCell ⟨k, i, none⟩ v) S :=
  h.over (Tn.set b k i v (List.mem_singleton.2 rfl)) (fun x hx => .inl (by rw [List.mem_singleton] at hx; omega))
theorem so_oth {b l : Nat} {s : ByteArray} {p f t : Nat} {w : World} {k i : Nat} {v : Value} (h : So b l s p f t w) (hb : b ≠ k) : So b l s p f t (w.setCell ⟨k, i, none⟩ v) := ⟨blk_other h.blk hb, h.bl, h.fp, h.pt, h.ts, h.big⟩
theorem so_dr {b l : Nat} {s : ByteArray} {p f t : Nat} {w : World} (h : So b l s p f t w) : So b l s p f t w.drew := ⟨h.blk, h.bl, h.fp, h.pt, h.ts, h.big⟩
theorem so_al {b l : Nat} {s : ByteArray} {p f t : Nat} {w : World} {o : Obj} (h : So b l s p f t w) : So b l s p f t (w.alloc o) := h.grown (World.grownBy_alloc _ _ none) (by simp)
theorem led_dr {l : Nat} {x : LS} {w : World} (h : Led l x w) : Led l x w.drew := h.grown (gb_drew _ none) (by simp)
theorem led_al {l : Nat} {x : LS} {w : World} {o : Obj} (h : Led l x w) : Led l x (w.alloc o) := h.grown (World.grownBy_alloc _ _ none) (by simp)

/-- The two results' blocks, not written yet. -/
structure ZR (r q : Nat) (w : World) : Prop where
  h : w.heap[r]? = some (.cells #[.int .i64 0, .bool false, .int .i64 0, .int .i64 0, .int .i64 0, .int .i64 0, .int .i64 0, .int .i64 0, .int .i64 0, .int .i64 0, .bool false, .bool false] 55 (0, 0))
  f : w.heap[q]? = some (.cells #[.int .i64 0, .int .i64 0, .int .i64 0] 29 (0, 0))

set_option maxRecDepth 100000 in
set_option maxHeartbeats 4000000 in
theorem thead_bad (b l : Nat) (s z : ByteArray) (p f t K : Nat) (x : St) (W : World) (h : So b l s p f t W) (hl : Led l x.ls W) (ok : x.Ok) (rd : rdB x p t 18 = true) (hz : s.extract p (p + 18) = z) (hzs : z.size = 18) (C : Ck z K) (hK : K < 12) :
    Calls Tryz.prog 26 #[.pointer (some ⟨b, 0, none⟩)] W
      fun e w' => e = .returned (.tuple #[.agg #[.int .i64 0, .bool false, .int .i64 0, .int .i64 0, .int .i64 0, .int .i64 0, .int .i64 0, .int .i64 0, .int .i64 0, .int .i64 0, .bool false, .bool false], .agg #[.int .i64 (kdK K), .int .i64 2, .int .i64 ((p : Int) + plK K)]]) ∧ (So b l s (p + 18) f t w' ∧ Led l (x.work 1).1.ls w') ∧ Tn W w' [b, l] := by
  have KA := Lib.hid (fun u (hu : So b l s p f t u) => at_calls b l s p f t u hu)
  have KT0 := fun u (hu : So b l s p f t u) (hlu : Led l x.ls u) => take_yes b l s p f t 18 x u hu hlu ok rd
  rw [hz, show ((18 : Nat) : Int) = 18 from rfl] at KT0
  have KT := Lib.hid KT0
  clear KT0
  have KW := Lib.hid (fun u => wrong_calls z K u (by omega) (by omega) C)
  have k23 := kd_23 K hK
  have hp := h.ts
  have hp2 := h.big
  have hp3 := (rd_of rd).2.2
  have hblt := h.lt
  have hllt := hl.lt
  have HS := Lib.hid h
  have HL := Lib.hid hl
  have hpl : 0 ≤ plK K ∧ plK K ≤ 17 := by
    obtain rfl | rfl | rfl | rfl | rfl | rfl | rfl | rfl | rfl | rfl | rfl | rfl : K = 0 ∨ K = 1 ∨ K = 2 ∨ K = 3 ∨ K = 4 ∨ K = 5 ∨ K = 6 ∨ K = 7 ∨ K = 8 ∨ K = 9 ∨ K = 10 ∨ K = 11 := by omega
    all_goals decide
  obtain ⟨kk, hkk⟩ : ∃ y, kdK K = y := ⟨_, rfl⟩
  obtain ⟨pp, hpp⟩ : ∃ y, plK K = y := ⟨_, rfl⟩
  rw [hkk] at k23
  rw [hpp] at hpl
  rw [hkk, hpp] at KW
  rw [hkk, hpp]
  have hw : IntKind.i64.wrap ((p : Int) + pp) = (p : Int) + pp := IntWalk.i64_in _ (by omega)
  have k0 : (kk == 0) = false := by rw [beq_eq_false_iff_ne]; omega
  have k0' : (kk != 0) = true := by rw [bne_iff_ne]; omega
  clear hkk hpp hz h hl ok rd C hK k23
  go_enter Tryz.func26, Tryz.ntmps26
  go_wp2_with fail
  have hZ0 : ZR W.heap.size (W.heap.size + 1) ((W.alloc (.cells #[.int .i64 0, .bool false, .int .i64 0, .int .i64 0, .int .i64 0, .int .i64 0, .int .i64 0, .int .i64 0, .int .i64 0, .int .i64 0, .bool false, .bool false] 55)).alloc (.cells #[.int .i64 0, .int .i64 0, .int .i64 0] 29)) := ⟨blk_al blk_at _, by rw [← size_alloc W (.cells #[.int .i64 0, .bool false, .int .i64 0, .int .i64 0, .int .i64 0, .int .i64 0, .int .i64 0, .int .i64 0, .int .i64 0, .int .i64 0, .bool false, .bool false] 55)]; exact blk_at⟩
  have hG0 : W.grownBy ((W.alloc (.cells #[.int .i64 0, .bool false, .int .i64 0, .int .i64 0, .int .i64 0, .int .i64 0, .int .i64 0, .int .i64 0, .int .i64 0, .int .i64 0, .bool false, .bool false] 55)).alloc (.cells #[.int .i64 0, .int .i64 0, .int .i64 0] 29)) none := gb_trans (World.grownBy_alloc _ _ _) (World.grownBy_alloc _ _ _)
  obtain ⟨r, hr⟩ : ∃ r, W.heap.size = r := ⟨_, rfl⟩
  rw [hr] at hblt hllt hZ0 ⊢
  generalize (W.alloc (.cells #[.int .i64 0, .bool false, .int .i64 0, .int .i64 0, .int .i64 0, .int .i64 0, .int .i64 0, .int .i64 0, .int .i64 0, .int .i64 0, .bool false, .bool false] 55)).alloc (.cells #[.int .i64 0, .int .i64 0, .int .i64 0] 29) = w0 at hZ0 hG0 ⊢
  have HS0 := Lib.hid (HS.out.grown hG0 (by simp))
  have HL0 := Lib.hid (HL.out.grown hG0 (by simp))
  have HZ0 := Lib.hid hZ0
  have HG0 := Lib.hid hG0
  have HR := Lib.hid hr
  clear hZ0 hG0 HS HL hr
  refine (KA.out _ HS0.out).mono ?_
  rintro e w' ⟨rfl, rfl⟩
  go_wp2_with fail
  refine (KT.out _ HS0.out HL0.out).mono ?_
  rintro e w2 ⟨rfl, ⟨S2, L2⟩, t2⟩
  have HS2 := Lib.hid S2
  have HL2 := Lib.hid L2
  have HZ2 := Lib.hid (show ZR r (r + 1) w2 from ⟨(t2.block r (blk_lt HZ0.out.h) (by simp; omega)).trans HZ0.out.h, (t2.block (r + 1) (blk_lt HZ0.out.f) (by simp; omega)).trans HZ0.out.f⟩)
  have HT2 := Lib.hid ((Tn.gb HG0.out (S := [b, l]) (by simp)).trans t2)
  clear S2 L2 t2 HS0 HL0 HZ0 HG0
  go_wp2_with fail
  refine (KW.out _).mono ?_
  rintro e w3 ⟨rfl, g3⟩
  have HS3 := Lib.hid (HS2.out.grown g3 (by simp))
  have HL3 := Lib.hid (HL2.out.grown g3 (by simp))
  have HT3 := Lib.hid (HT2.out.trans (Tn.gb g3 (S := [b, l]) (by simp)))
  have hzr : ZR r (r + 1) w3 := ⟨old0 g3 HZ2.out.h (blk_lt HZ2.out.h) (by simp), old0 g3 HZ2.out.f (blk_lt HZ2.out.f) (by simp)⟩
  have h0 : w3.cell? ⟨r, 0, none⟩ = some (.int .i64 0) := blk_cell hzr.h 0
  have gz0 := blk_free hzr.h 0
  have h1 : w3.cell? ⟨r, 1, none⟩ = some (.bool false) := blk_cell hzr.h 1
  have gz1 := blk_free hzr.h 1
  have h2 : w3.cell? ⟨r, 2, none⟩ = some (.int .i64 0) := blk_cell hzr.h 2
  have gz2 := blk_free hzr.h 2
  have h3 : w3.cell? ⟨r, 3, none⟩ = some (.int .i64 0) := blk_cell hzr.h 3
  have gz3 := blk_free hzr.h 3
  have h4 : w3.cell? ⟨r, 4, none⟩ = some (.int .i64 0) := blk_cell hzr.h 4
  have gz4 := blk_free hzr.h 4
  have h5 : w3.cell? ⟨r, 5, none⟩ = some (.int .i64 0) := blk_cell hzr.h 5
  have gz5 := blk_free hzr.h 5
  have h6 : w3.cell? ⟨r, 6, none⟩ = some (.int .i64 0) := blk_cell hzr.h 6
  have gz6 := blk_free hzr.h 6
  have h7 : w3.cell? ⟨r, 7, none⟩ = some (.int .i64 0) := blk_cell hzr.h 7
  have gz7 := blk_free hzr.h 7
  have h8 : w3.cell? ⟨r, 8, none⟩ = some (.int .i64 0) := blk_cell hzr.h 8
  have gz8 := blk_free hzr.h 8
  have h9 : w3.cell? ⟨r, 9, none⟩ = some (.int .i64 0) := blk_cell hzr.h 9
  have gz9 := blk_free hzr.h 9
  have h10 : w3.cell? ⟨r, 10, none⟩ = some (.bool false) := blk_cell hzr.h 10
  have gz10 := blk_free hzr.h 10
  have h11 : w3.cell? ⟨r, 11, none⟩ = some (.bool false) := blk_cell hzr.h 11
  have gz11 := blk_free hzr.h 11
  have u0 : w3.cell? ⟨r + 1, 0, none⟩ = some (.int .i64 0) := blk_cell hzr.f 0
  have v0 := blk_free hzr.f 0
  have u1 : w3.cell? ⟨r + 1, 1, none⟩ = some (.int .i64 0) := blk_cell hzr.f 1
  have v1 := blk_free hzr.f 1
  have u2 : w3.cell? ⟨r + 1, 2, none⟩ = some (.int .i64 0) := blk_cell hzr.f 2
  have v2 := blk_free hzr.f 2
  have hlr := blk_lt hzr.h
  have hlq := blk_lt hzr.f
  have ne1 : r ≠ r + 1 := by omega
  have ne2 : r + 1 ≠ r := by omega
  clear HS2 HL2 HT2 HZ2 hzr KW KA KT g3
  go_wp2
  refine bodyPost_ret (v := .tuple #[.agg #[.int .i64 0, .bool false, .int .i64 0, .int .i64 0, .int .i64 0, .int .i64 0, .int .i64 0, .int .i64 0, .int .i64 0, .int .i64 0, .bool false, .bool false], .agg #[.int .i64 kk, .int .i64 2, .int .i64 ((p : Int) + pp)]]) (by simp only [results, Tryz.results26]; go_simp) rfl ⟨rfl, ⟨?_, ?_⟩, ?_⟩
  · repeat' first | with_reducible exact HS3.out | with_reducible refine so_oth ?_ (by omega) | with_reducible refine so_dr ?_ | with_reducible refine so_al ?_
  · repeat' first | with_reducible exact HL3.out | with_reducible refine Led.oth ?_ (by omega) | with_reducible refine led_dr ?_ | with_reducible refine led_al ?_
  · have hr := HR.out
    repeat' first | with_reducible exact HT3.out | with_reducible refine tn_own1 ?_ (by omega) | with_reducible refine Tn.dr ?_ | with_reducible refine Tn.al ?_

set_option maxRecDepth 100000 in
set_option maxHeartbeats 4000000 in
theorem thead_good (b l : Nat) (s z : ByteArray) (p f t : Nat) (x : St) (W : World) (h : So b l s p f t W) (hl : Led l x.ls W) (ok : x.Ok) (rd : rdB x p t 18 = true) (hz : s.extract p (p + 18) = z) (hzs : z.size = 18) (C : Ck z 12) :
    Calls Tryz.prog 26 #[.pointer (some ⟨b, 0, none⟩)] W
      fun e w' => e = .returned (.tuple #[.agg (hA z), .agg #[.int .i64 0, .int .i64 0, .int .i64 0]]) ∧ (So b l s (p + 18) f t w' ∧ Led l (x.work 1).1.ls w') ∧ Tn W w' [b, l] := by
  have KA := Lib.hid (fun u (hu : So b l s p f t u) => at_calls b l s p f t u hu)
  have KT0 := fun u (hu : So b l s p f t u) (hlu : Led l x.ls u) => take_yes b l s p f t 18 x u hu hlu ok rd
  rw [hz, show ((18 : Nat) : Int) = 18 from rfl] at KT0
  have KT := Lib.hid KT0
  clear KT0
  have KW := Lib.hid (fun u => wrong_calls z 12 u (by omega) (by omega) C)
  have KF0 := fun u => fields_calls z u (by omega) (by omega)
  unfold hA at KF0
  have KF := Lib.hid KF0
  have k0 : (kdK 12 == 0) = true := rfl
  have k0' : (kdK 12 != 0) = false := rfl
  have hblt := h.lt
  have hllt := hl.lt
  have HS := Lib.hid h
  have HL := Lib.hid hl
  obtain ⟨kk, hkk⟩ : ∃ y, kdK 12 = y := ⟨_, rfl⟩
  obtain ⟨pp, hpp⟩ : ∃ y, plK 12 = y := ⟨_, rfl⟩
  rw [hkk] at k0 k0'
  rw [hkk, hpp] at KW
  unfold hA
  clear hkk hpp hz h hl ok rd C KF0
  go_enter Tryz.func26, Tryz.ntmps26
  go_wp2_with fail
  have hZ0 : ZR W.heap.size (W.heap.size + 1) ((W.alloc (.cells #[.int .i64 0, .bool false, .int .i64 0, .int .i64 0, .int .i64 0, .int .i64 0, .int .i64 0, .int .i64 0, .int .i64 0, .int .i64 0, .bool false, .bool false] 55)).alloc (.cells #[.int .i64 0, .int .i64 0, .int .i64 0] 29)) := ⟨blk_al blk_at _, by rw [← size_alloc W (.cells #[.int .i64 0, .bool false, .int .i64 0, .int .i64 0, .int .i64 0, .int .i64 0, .int .i64 0, .int .i64 0, .int .i64 0, .int .i64 0, .bool false, .bool false] 55)]; exact blk_at⟩
  have hG0 : W.grownBy ((W.alloc (.cells #[.int .i64 0, .bool false, .int .i64 0, .int .i64 0, .int .i64 0, .int .i64 0, .int .i64 0, .int .i64 0, .int .i64 0, .int .i64 0, .bool false, .bool false] 55)).alloc (.cells #[.int .i64 0, .int .i64 0, .int .i64 0] 29)) none := gb_trans (World.grownBy_alloc _ _ _) (World.grownBy_alloc _ _ _)
  obtain ⟨r, hr⟩ : ∃ r, W.heap.size = r := ⟨_, rfl⟩
  rw [hr] at hblt hllt hZ0 ⊢
  generalize (W.alloc (.cells #[.int .i64 0, .bool false, .int .i64 0, .int .i64 0, .int .i64 0, .int .i64 0, .int .i64 0, .int .i64 0, .int .i64 0, .int .i64 0, .bool false, .bool false] 55)).alloc (.cells #[.int .i64 0, .int .i64 0, .int .i64 0] 29) = w0 at hZ0 hG0 ⊢
  have HS0 := Lib.hid (HS.out.grown hG0 (by simp))
  have HL0 := Lib.hid (HL.out.grown hG0 (by simp))
  have HZ0 := Lib.hid hZ0
  have HG0 := Lib.hid hG0
  have HR := Lib.hid hr
  clear hZ0 hG0 HS HL hr
  refine (KA.out _ HS0.out).mono ?_
  rintro e w' ⟨rfl, rfl⟩
  go_wp2_with fail
  refine (KT.out _ HS0.out HL0.out).mono ?_
  rintro e w2 ⟨rfl, ⟨S2, L2⟩, t2⟩
  have HS2 := Lib.hid S2
  have HL2 := Lib.hid L2
  have HZ2 := Lib.hid (show ZR r (r + 1) w2 from ⟨(t2.block r (blk_lt HZ0.out.h) (by simp; omega)).trans HZ0.out.h, (t2.block (r + 1) (blk_lt HZ0.out.f) (by simp; omega)).trans HZ0.out.f⟩)
  have HT2 := Lib.hid ((Tn.gb HG0.out (S := [b, l]) (by simp)).trans t2)
  clear S2 L2 t2 HS0 HL0 HZ0 HG0
  go_wp2_with fail
  refine (KW.out _).mono ?_
  rintro e w3 ⟨rfl, g3⟩
  go_wp2_with fail
  refine (KF.out _).mono ?_
  rintro e w4 ⟨rfl, g4⟩
  have g34 := gb_trans g3 g4
  have HS3 := Lib.hid (HS2.out.grown g34 (by simp))
  have HL3 := Lib.hid (HL2.out.grown g34 (by simp))
  have HT3 := Lib.hid (HT2.out.trans (Tn.gb g34 (S := [b, l]) (by simp)))
  have hzr : ZR r (r + 1) w4 := ⟨old0 g34 HZ2.out.h (blk_lt HZ2.out.h) (by simp), old0 g34 HZ2.out.f (blk_lt HZ2.out.f) (by simp)⟩
  have h0 : w4.cell? ⟨r, 0, none⟩ = some (.int .i64 0) := blk_cell hzr.h 0
  have gz0 := blk_free hzr.h 0
  have h1 : w4.cell? ⟨r, 1, none⟩ = some (.bool false) := blk_cell hzr.h 1
  have gz1 := blk_free hzr.h 1
  have h2 : w4.cell? ⟨r, 2, none⟩ = some (.int .i64 0) := blk_cell hzr.h 2
  have gz2 := blk_free hzr.h 2
  have h3 : w4.cell? ⟨r, 3, none⟩ = some (.int .i64 0) := blk_cell hzr.h 3
  have gz3 := blk_free hzr.h 3
  have h4 : w4.cell? ⟨r, 4, none⟩ = some (.int .i64 0) := blk_cell hzr.h 4
  have gz4 := blk_free hzr.h 4
  have h5 : w4.cell? ⟨r, 5, none⟩ = some (.int .i64 0) := blk_cell hzr.h 5
  have gz5 := blk_free hzr.h 5
  have h6 : w4.cell? ⟨r, 6, none⟩ = some (.int .i64 0) := blk_cell hzr.h 6
  have gz6 := blk_free hzr.h 6
  have h7 : w4.cell? ⟨r, 7, none⟩ = some (.int .i64 0) := blk_cell hzr.h 7
  have gz7 := blk_free hzr.h 7
  have h8 : w4.cell? ⟨r, 8, none⟩ = some (.int .i64 0) := blk_cell hzr.h 8
  have gz8 := blk_free hzr.h 8
  have h9 : w4.cell? ⟨r, 9, none⟩ = some (.int .i64 0) := blk_cell hzr.h 9
  have gz9 := blk_free hzr.h 9
  have h10 : w4.cell? ⟨r, 10, none⟩ = some (.bool false) := blk_cell hzr.h 10
  have gz10 := blk_free hzr.h 10
  have h11 : w4.cell? ⟨r, 11, none⟩ = some (.bool false) := blk_cell hzr.h 11
  have gz11 := blk_free hzr.h 11
  have u0 : w4.cell? ⟨r + 1, 0, none⟩ = some (.int .i64 0) := blk_cell hzr.f 0
  have v0 := blk_free hzr.f 0
  have u1 : w4.cell? ⟨r + 1, 1, none⟩ = some (.int .i64 0) := blk_cell hzr.f 1
  have v1 := blk_free hzr.f 1
  have u2 : w4.cell? ⟨r + 1, 2, none⟩ = some (.int .i64 0) := blk_cell hzr.f 2
  have v2 := blk_free hzr.f 2
  have hlr := blk_lt hzr.h
  have hlq := blk_lt hzr.f
  have ne1 : r ≠ r + 1 := by omega
  have ne2 : r + 1 ≠ r := by omega
  clear HS2 HL2 HT2 HZ2 hzr KW KA KT g3 g4 g34 KF
  go_wp2
  refine bodyPost_ret (v := .tuple #[.agg #[.int .i64 (bn z 0), .bool (mpB z), .int .i64 (bn z 2), .int .i64 (fst z), .int .i64 (cnt z), .int .i64 (ent z), .int .i64 (wd z 12), .int .i64 (wd z 14), .int .i64 (bn z 16), .int .i64 (alp z), .bool (lft z), .bool (tpp z)], .agg #[.int .i64 0, .int .i64 0, .int .i64 0]]) (by simp only [results, Tryz.results26]; go_simp) rfl ⟨rfl, ⟨?_, ?_⟩, ?_⟩
  · repeat' first | with_reducible exact HS3.out | with_reducible refine so_oth ?_ (by omega) | with_reducible refine so_dr ?_ | with_reducible refine so_al ?_
  · repeat' first | with_reducible exact HL3.out | with_reducible refine Led.oth ?_ (by omega) | with_reducible refine led_dr ?_ | with_reducible refine led_al ?_
  · have hr := HR.out
    repeat' first | with_reducible exact HT3.out | with_reducible refine tn_own1 ?_ (by omega) | with_reducible refine Tn.dr ?_ | with_reducible refine Tn.al ?_

end Go.Proofs.YtnieeckdldpebaaGreat.Tg

/- Layer 16: a head that isn't there, or whose step is refused (written by wip/gen/trb.py). -/
namespace Go.Proofs.YtnieeckdldpebaaGreat.Tg
open Go.ChangeShapes Go.WideShapes Go.ChangeAt Go.RowKit
open Go.Proofs.YtnieeckdldpebaaGreat.Le Go.Proofs.YtnieeckdldpebaaGreat.Sr
set_option linter.unusedVariables false

set_option maxRecDepth 100000 in
set_option maxHeartbeats 4000000 in
theorem thead_no (b l : Nat) (s : ByteArray) (p f t : Nat) (x : St) (kk pp : Int) (W : World) (h : So b l s p f t W) (hl : Led l x.ls W) (ok : x.Ok) (rd : rdB x p t 18 = false) (hf : (if ((x.work 1).1).r = 0 then Value.agg #[.int .i64 1, .int .i64 2, .int .i64 t] else .agg #[.int .i64 4, .int .i64 2, .int .i64 p]) = .agg #[.int .i64 kk, .int .i64 2, .int .i64 pp]) :
    Calls Tryz.prog 26 #[.pointer (some ⟨b, 0, none⟩)] W
      fun e w' => e = .returned (.tuple #[.agg #[.int .i64 0, .bool false, .int .i64 0, .int .i64 0, .int .i64 0, .int .i64 0, .int .i64 0, .int .i64 0, .int .i64 0, .int .i64 0, .bool false, .bool false], .agg #[.int .i64 kk, .int .i64 2, .int .i64 pp]]) ∧ (So b l s p f t w' ∧ Led l (x.work 1).1.ls w') ∧ Tn W w' [b, l] := by
  have KA := Lib.hid (fun u (hu : So b l s p f t u) => at_calls b l s p f t u hu)
  have KT := Lib.hid (fun u (hu : So b l s p f t u) (hlu : Led l x.ls u) => take_no b l s p f t x 18 u hu hlu ok rd)
  have KW0 := fun u (hu : So b l s p f t u) (hlu : Led l (x.work 1).1.ls u) => fault_calls b l s p f t (x.work 1).1 2 u hu hlu
  rw [hf] at KW0
  have KW := Lib.hid KW0
  have hblt := h.lt
  have hllt := hl.lt
  have hbl := h.bl
  have HS := Lib.hid h
  have HL := Lib.hid hl
  clear h hl ok rd KW0 hf
  go_enter Tryz.func26, Tryz.ntmps26
  go_wp2_with fail
  have hZ0 : ZR W.heap.size (W.heap.size + 1) ((W.alloc (.cells #[.int .i64 0, .bool false, .int .i64 0, .int .i64 0, .int .i64 0, .int .i64 0, .int .i64 0, .int .i64 0, .int .i64 0, .int .i64 0, .bool false, .bool false] 55)).alloc (.cells #[.int .i64 0, .int .i64 0, .int .i64 0] 29)) := ⟨blk_al blk_at _, by rw [← size_alloc W (.cells #[.int .i64 0, .bool false, .int .i64 0, .int .i64 0, .int .i64 0, .int .i64 0, .int .i64 0, .int .i64 0, .int .i64 0, .int .i64 0, .bool false, .bool false] 55)]; exact blk_at⟩
  have hG0 : W.grownBy ((W.alloc (.cells #[.int .i64 0, .bool false, .int .i64 0, .int .i64 0, .int .i64 0, .int .i64 0, .int .i64 0, .int .i64 0, .int .i64 0, .int .i64 0, .bool false, .bool false] 55)).alloc (.cells #[.int .i64 0, .int .i64 0, .int .i64 0] 29)) none := gb_trans (World.grownBy_alloc _ _ _) (World.grownBy_alloc _ _ _)
  obtain ⟨r, hr⟩ : ∃ r, W.heap.size = r := ⟨_, rfl⟩
  rw [hr] at hblt hllt hZ0 ⊢
  generalize (W.alloc (.cells #[.int .i64 0, .bool false, .int .i64 0, .int .i64 0, .int .i64 0, .int .i64 0, .int .i64 0, .int .i64 0, .int .i64 0, .int .i64 0, .bool false, .bool false] 55)).alloc (.cells #[.int .i64 0, .int .i64 0, .int .i64 0] 29) = w0 at hZ0 hG0 ⊢
  have HS0 := Lib.hid (HS.out.grown hG0 (by simp))
  have HL0 := Lib.hid (HL.out.grown hG0 (by simp))
  have HZ0 := Lib.hid hZ0
  have HG0 := Lib.hid hG0
  have HR := Lib.hid hr
  clear hZ0 hG0 HS HL hr
  refine (KA.out _ HS0.out).mono ?_
  rintro e w' ⟨rfl, rfl⟩
  go_wp2_with fail
  refine (KT.out _ HS0.out HL0.out).mono ?_
  rintro e w2 ⟨rfl, ⟨S2, L2⟩, g2⟩
  have t2 := Tn.gb g2 (S := [b, l]) (by simp)
  have HS2 := Lib.hid S2
  have HL2 := Lib.hid L2
  have HZ2 := Lib.hid (show ZR r (r + 1) w2 from ⟨(t2.block r (blk_lt HZ0.out.h) (by simp; omega)).trans HZ0.out.h, (t2.block (r + 1) (blk_lt HZ0.out.f) (by simp; omega)).trans HZ0.out.f⟩)
  have HT2 := Lib.hid ((Tn.gb HG0.out (S := [b, l]) (by simp)).trans t2)
  clear S2 L2 t2 g2 HS0 HL0 HZ0 HG0
  go_wp2_with fail
  refine (KW.out _ HS2.out HL2.out).mono ?_
  rintro e w3 ⟨rfl, g3⟩
  have HS3 := Lib.hid (HS2.out.grown g3 (by simp))
  have HL3 := Lib.hid (HL2.out.grown g3 (by simp))
  have HT3 := Lib.hid (HT2.out.trans (Tn.gb g3 (S := [b, l]) (by simp)))
  have hzr : ZR r (r + 1) w3 := ⟨old0 g3 HZ2.out.h (blk_lt HZ2.out.h) (by simp), old0 g3 HZ2.out.f (blk_lt HZ2.out.f) (by simp)⟩
  have h0 : w3.cell? ⟨r, 0, none⟩ = some (.int .i64 0) := blk_cell hzr.h 0
  have gz0 := blk_free hzr.h 0
  have h1 : w3.cell? ⟨r, 1, none⟩ = some (.bool false) := blk_cell hzr.h 1
  have gz1 := blk_free hzr.h 1
  have h2 : w3.cell? ⟨r, 2, none⟩ = some (.int .i64 0) := blk_cell hzr.h 2
  have gz2 := blk_free hzr.h 2
  have h3 : w3.cell? ⟨r, 3, none⟩ = some (.int .i64 0) := blk_cell hzr.h 3
  have gz3 := blk_free hzr.h 3
  have h4 : w3.cell? ⟨r, 4, none⟩ = some (.int .i64 0) := blk_cell hzr.h 4
  have gz4 := blk_free hzr.h 4
  have h5 : w3.cell? ⟨r, 5, none⟩ = some (.int .i64 0) := blk_cell hzr.h 5
  have gz5 := blk_free hzr.h 5
  have h6 : w3.cell? ⟨r, 6, none⟩ = some (.int .i64 0) := blk_cell hzr.h 6
  have gz6 := blk_free hzr.h 6
  have h7 : w3.cell? ⟨r, 7, none⟩ = some (.int .i64 0) := blk_cell hzr.h 7
  have gz7 := blk_free hzr.h 7
  have h8 : w3.cell? ⟨r, 8, none⟩ = some (.int .i64 0) := blk_cell hzr.h 8
  have gz8 := blk_free hzr.h 8
  have h9 : w3.cell? ⟨r, 9, none⟩ = some (.int .i64 0) := blk_cell hzr.h 9
  have gz9 := blk_free hzr.h 9
  have h10 : w3.cell? ⟨r, 10, none⟩ = some (.bool false) := blk_cell hzr.h 10
  have gz10 := blk_free hzr.h 10
  have h11 : w3.cell? ⟨r, 11, none⟩ = some (.bool false) := blk_cell hzr.h 11
  have gz11 := blk_free hzr.h 11
  have u0 : w3.cell? ⟨r + 1, 0, none⟩ = some (.int .i64 0) := blk_cell hzr.f 0
  have v0 := blk_free hzr.f 0
  have u1 : w3.cell? ⟨r + 1, 1, none⟩ = some (.int .i64 0) := blk_cell hzr.f 1
  have v1 := blk_free hzr.f 1
  have u2 : w3.cell? ⟨r + 1, 2, none⟩ = some (.int .i64 0) := blk_cell hzr.f 2
  have v2 := blk_free hzr.f 2
  have hlr := blk_lt hzr.h
  have hlq := blk_lt hzr.f
  have ne1 : r ≠ r + 1 := by omega
  have ne2 : r + 1 ≠ r := by omega
  clear HS2 HL2 HT2 HZ2 hzr KW KA KT g3
  go_wp2
  refine bodyPost_ret (v := .tuple #[.agg #[.int .i64 0, .bool false, .int .i64 0, .int .i64 0, .int .i64 0, .int .i64 0, .int .i64 0, .int .i64 0, .int .i64 0, .int .i64 0, .bool false, .bool false], .agg #[.int .i64 kk, .int .i64 2, .int .i64 pp]]) (by simp only [results, Tryz.results26]; go_simp) rfl ⟨rfl, ⟨?_, ?_⟩, ?_⟩
  · repeat' first | with_reducible exact HS3.out | with_reducible refine so_oth ?_ (by omega) | with_reducible refine so_dr ?_ | with_reducible refine so_al ?_
  · repeat' first | with_reducible exact HL3.out | with_reducible refine Led.oth ?_ (by omega) | with_reducible refine led_dr ?_ | with_reducible refine led_al ?_
  · have hr := HR.out
    repeat' first | with_reducible exact HT3.out | with_reducible refine tn_own1 ?_ (by omega) | with_reducible refine Tn.dr ?_ | with_reducible refine Tn.al ?_


end Go.Proofs.YtnieeckdldpebaaGreat.Tg
