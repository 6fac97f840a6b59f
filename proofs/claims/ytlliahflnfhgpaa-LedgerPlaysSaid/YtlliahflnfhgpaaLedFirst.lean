/- The law LedgerFirst, walked. -/
import Derived.Test.YtlliahflnfhgpaaLed7
import Derived.Deep.DeepCutAuto
import Derived.Deep.RegionHeld3
import Derived.Deep.LoopGhost
namespace Go.Proofs.Ytlliahflnfhgpaa.Le
open Go.ChangeShapes Go.WideShapes Go.ChangeAt Go.RowKit
set_option linter.unusedVariables false

/-- Behind any call the first refusal stays; where there is none there is nothing asked. -/
structure Then (x y : St) : Prop where
  ok : y.Ok
  zero : y.r = 0 → y.a = 0
  keep : x.r ≠ 0 → y.r = x.r ∧ y.a = x.a

theorem then_refuse {x : St} (ok : x.Ok) (z : x.r = 0 → x.a = 0) {r : Int} (a : Int) (h0 : 0 < r) (h3 : r ≤ 3) : Then x (x.refuse r a) := by
  refine ⟨ok.refuse a (by omega) h3, fun h => ?_, fun h => ?_⟩
  · unfold St.refuse at h ⊢
    split at h
    · simp at h; omega
    · rename_i hr; exact absurd h hr
  · unfold St.refuse
    rw [if_neg h]
    exact ⟨rfl, rfl⟩
theorem then_self {x : St} (ok : x.Ok) (z : x.r = 0 → x.a = 0) : Then x x := ⟨ok, z, fun _ => ⟨rfl, rfl⟩⟩
theorem then_sides {x : St} (ok : x.Ok) (z : x.r = 0 → x.a = 0) (n m : Int) : Then x (x.sides n m).1 := by
  unfold St.sides
  repeat' split
  · exact then_self ok z
  · exact then_refuse ok z _ (by decide) (by decide)
  · exact then_refuse ok z _ (by decide) (by decide)
  · exact then_self ok z
theorem then_take {x : St} (ok : x.Ok) (z : x.r = 0 → x.a = 0) (n : Int) : Then x (x.take n).1 := by
  refine ⟨ok.take n, ?_, ?_⟩ <;> unfold St.take
  · split
    · exact z
    split
    · exact (then_refuse ok z n (by decide : (0 : Int) < 2) (by decide)).zero
    · exact z
  · intro hr
    rw [if_pos hr]
    exact ⟨rfl, rfl⟩
theorem then_work {x : St} (ok : x.Ok) (z : x.r = 0 → x.a = 0) (n : Int) : Then x (x.work n).1 := by
  refine ⟨ok.work n, ?_, ?_⟩ <;> unfold St.work
  · split
    · exact z
    split
    · exact (then_refuse ok z n (by decide : (0 : Int) < 3) (by decide)).zero
    · exact z
  · intro hr
    rw [if_pos hr]
    exact ⟨rfl, rfl⟩
theorem then_give {x : St} (ok : x.Ok) (z : x.r = 0 → x.a = 0) (n : Int) : Then x (x.give n).1 := by
  refine ⟨ok.give n, ?_, ?_⟩ <;> unfold St.give
  · split <;> exact z
  · intro hr
    split <;> exact ⟨rfl, rfl⟩

/-- What holds at every round's head: the ledger's state, and the first refusal as the law keeps it. -/
structure FI (W : World) (l F : Nat) (x : St) (wr : World) : Prop where
  ok : x.Ok
  zero : x.r = 0 → x.a = 0
  led : Led l x.ls wr
  blk : wr.heap[F]? = some (.cells #[.int .i64 x.r, .int .i64 x.a] 39 (0, 0))
  grown : W.grownBy wr none

/-- Behind the call of a round: the ledger is at y, the first refusal is kept as it was at x. -/
structure FJ (W : World) (l F : Nat) (x y : St) (wr : World) : Prop where
  th : Then x y
  led : Led l y.ls wr
  blk : wr.heap[F]? = some (.cells #[.int .i64 x.r, .int .i64 x.a] 39 (0, 0))
  grown : W.grownBy wr none

theorem blk_keep {w w' : World} {F : Nat} {o : Obj} {r : Option Nat} (h : w.heap[F]? = some o) (g : w.grownBy w' r) (hr : some F ≠ r) : w'.heap[F]? = some o :=
  (g.block F (blk_lt h) hr).trans h
theorem Led.other {b : Nat} {S : LS} {w : World} (h : Led b S w) {p : Addr} (hp : b ≠ p.block) (v : Value) : Led b S (w.setCell p v) :=
  (Below.heap_setCell w p v b hp).trans h

theorem FI.stay {W : World} {l F : Nat} {x : St} {wr : World} (I : FI W l F x wr) (o : Obj) : FJ W l F x x (wr.alloc o) :=
  ⟨then_self I.ok I.zero, I.led.alloc o, blk_keep I.blk (World.grownBy_alloc _ _ none) (by simp), gb_trans I.grown (World.grownBy_alloc _ _ _)⟩
theorem FI.move {W : World} {l F : Nat} {x y : St} {wr w' : World} (I : FI W l F x wr) (hl : W.heap.size ≤ l) (hlF : l ≠ F) (o : Obj) (th : Then x y) (L : Led l y.ls w') (g : (wr.alloc o).grownBy w' (some l)) : FJ W l F x y w' :=
  ⟨th, L, blk_keep (I.stay o).blk g (by simp; omega), gb_own (I.stay o).grown hl g⟩
theorem FJ.go {W : World} {l F : Nat} {x y : St} {w w' : World} (J : FJ W l F x y w) (g : w.grownBy w' none) : FJ W l F x y w' :=
  ⟨J.th, J.led.grown g (by simp), blk_keep J.blk g (by simp), gb_trans J.grown g⟩

/-- The first refusal is kept as it is now. -/
theorem FJ.close {W : World} {l F : Nat} {x y : St} {w : World} (J : FJ W l F x y w) (hlF : l ≠ F) (o : Obj) (hF : W.heap.size ≤ F) :
    FI W l F y (((w.setCell ⟨F, 0, none⟩ (.int .i64 y.r)).setCell ⟨F, 1, none⟩ (.int .i64 y.a)).alloc o) := by
  have h2 := blk_set (blk_set J.blk 0 (.int .i64 y.r)) 1 (.int .i64 y.a)
  exact ⟨J.th.ok, J.th.zero, ((J.led.other hlF _).other hlF _).alloc o, blk_keep h2 (World.grownBy_alloc _ o none) (by simp), gb_trans (gb_own (gb_own J.grown hF (gb_set _ _ _ _)) hF (gb_set _ _ _ _)) (World.grownBy_alloc _ o none)⟩

/-- What a round's call leaves. -/
def Stepped (W : World) (l F : Nat) (x : St) (e : Ending) (w' : World) : Prop := ∃ (y : St) (B : Bool), e = .returned (.bool B) ∧ FJ W l F x y w'

section
variable {W : World} {l F : Nat} {x : St} {wr : World}
theorem step_sides (I : FI W l F x wr) (hl : W.heap.size ≤ l) (hlF : l ≠ F) (o : Obj) (n m : Int) : Calls Try.prog 9 #[.pointer (some ⟨l, 0, none⟩), .int .i64 n, .int .i64 m] (wr.alloc o) (Stepped W l F x) :=
  (sides_calls l x n m _ (I.led.alloc o)).mono fun _ _ ⟨he, L, g⟩ => ⟨_, _, he, I.move hl hlF o (then_sides I.ok I.zero n m) L g⟩
theorem step_take (I : FI W l F x wr) (hl : W.heap.size ≤ l) (hlF : l ≠ F) (o : Obj) (n : Int) : Calls Try.prog 11 #[.pointer (some ⟨l, 0, none⟩), .int .i64 n] (wr.alloc o) (Stepped W l F x) :=
  (take_calls l x n _ (I.led.alloc o) I.ok).mono fun _ _ ⟨he, L, g⟩ => ⟨_, _, he, I.move hl hlF o (then_take I.ok I.zero n) L g⟩
theorem step_give (I : FI W l F x wr) (hl : W.heap.size ≤ l) (hlF : l ≠ F) (o : Obj) (n : Int) : Calls Try.prog 13 #[.pointer (some ⟨l, 0, none⟩), .int .i64 n] (wr.alloc o) (Stepped W l F x) :=
  (give_calls l x n _ (I.led.alloc o) I.ok).mono fun _ _ ⟨he, L, g⟩ => ⟨_, _, he, I.move hl hlF o (then_give I.ok I.zero n) L g⟩
theorem step_work (I : FI W l F x wr) (hl : W.heap.size ≤ l) (hlF : l ≠ F) (o : Obj) (n : Int) : Calls Try.prog 15 #[.pointer (some ⟨l, 0, none⟩), .int .i64 n] (wr.alloc o) (Stepped W l F x) :=
  (work_calls l x n _ (I.led.alloc o) I.ok).mono fun _ _ ⟨he, L, g⟩ => ⟨_, _, he, I.move hl hlF o (then_work I.ok I.zero n) L g⟩
theorem step_first {y : St} {w : World} (J : FJ W l F x y w) : Calls Try.prog 17 #[.pointer (some ⟨l, 0, none⟩)] w
    fun e w' => e = .returned (.tuple #[.agg #[.int .i64 y.r, .int .i64 y.a], .bool (y.r != 0)]) ∧ FJ W l F x y w' :=
  (first_calls l y w J.led J.th.zero).mono fun _ _ ⟨he, g⟩ => ⟨he, J.go g⟩
end

set_option maxRecDepth 100000 in
set_option maxHeartbeats 2000000 in
theorem first_walk (p q r s : Int) (a : Option Addr) (b off len cap : Nat) (K N M : Nat → Int) (W : World) (ha : 0 < len → a = some ⟨b, off, none⟩)
    (hp : p ≤ 9223372036854775807) (hq : q ≤ 9223372036854775807) (hr : r ≤ 9223372036854775807) (hs : s ≤ 9223372036854775807) (hbig : len ≤ 9223372036854775807)
    (hc : ∀ i, i < len → W.cell? ⟨b, off + i * 3, none⟩ = some (.int .i64 (K i)) ∧ W.cell? ⟨b, off + i * 3 + 1, none⟩ = some (.int .i64 (N i)) ∧ W.cell? ⟨b, off + i * 3 + 2, none⟩ = some (.int .i64 (M i))) :
    Calls Try.prog 4 #[.agg #[.int .i64 p, .int .i64 q, .int .i64 r, .int .i64 s], .slice a len cap] W
      fun e w' => e = .returned (.bool true) ∧ W.grownBy w' none := by
  have ok0 := Lib.hid (St.new_ok hp hq hr hs)
  have HC := Lib.hid hc
  have HA := Lib.hid ha
  clear ha
  clear hc hp hq hr hs
  go_enter Try.func4, Try.ntmps4
  go_wp2_with fail
  refine (new_calls p q r s _).mono ?_
  rintro e w0 ⟨l, rfl, L0, g0, hl⟩
  have H0 := Lib.hid L0
  have G0 := Lib.hid (gb_trans (World.grownBy_alloc _ _ _) g0)
  have hl' : W.heap.size < l := by
    have h1 : (W.alloc (.cells #[.int .i64 p, .int .i64 q, .int .i64 r, .int .i64 s] 23)).heap.size = W.heap.size + 1 := by show (W.heap.push _).size = _; simp
    omega
  have hlw := L0.lt
  clear L0 g0 hl
  go_wp2_with fail
  obtain ⟨F, hF⟩ : ∃ F, w0.heap.size = F := ⟨_, rfl⟩
  have I0 := Lib.hid (show FI W l F (St.new p q r s) (w0.alloc (.cells #[.int .i64 0, .int .i64 0] 39)) from
    ⟨ok0.out, fun _ => rfl, H0.out.alloc _, by rw [← hF]; exact blk_new _ _ _, gb_trans G0.out (World.grownBy_alloc _ _ _)⟩)
  have hFW : W.heap.size ≤ F := by have := G0.out.size; omega
  have hlF : l ≠ F := by omega
  simp only [hF]
  clear hlw ok0 H0 G0 hF
  go_loopg [7, 8] 101 (fun g hv iv wr => ∃ (k : Nat) (x : St) (hd : Bool), k ≤ 100 ∧ g = 101 - k ∧ iv = .int .i64 k ∧ hv = .bool hd ∧ hd = (x.r != 0) ∧ FI W l F x wr)
  case atStart => exact ⟨0, _, false, by omega, rfl, rfl, rfl, rfl, I0.out⟩
  case round =>
    obtain ⟨k, x, hd, hk, rfl, rfl, rfl, hhd, I⟩ := hrel
    have HH := Lib.hid hhd
    have HI := Lib.hid I
    clear hhd I I0
    by_cases hlt : k < len
    · by_cases h100 : k < 100
      · obtain rfl := HA.out (by omega)
        obtain ⟨a0, a1, a2⟩ := HC.out k hlt
        have c0 := HI.out.grown.cell a0 (by simp)
        have c1 := HI.out.grown.cell a1 (by simp)
        have c2 := HI.out.grown.cell a2 (by simp)
        clear a0 a1 a2
        obtain ⟨K', hK⟩ : ∃ y, K k = y := ⟨_, rfl⟩
        obtain ⟨N', hN⟩ : ∃ y, N k = y := ⟨_, rfl⟩
        obtain ⟨M', hM⟩ : ∃ y, M k = y := ⟨_, rfl⟩
        rw [hK] at c0
        rw [hN] at c1
        rw [hM] at c2
        clear hK hN hM
        have hl2 : W.heap.size ≤ l := by omega
        have HJ0 := Lib.hid (HI.out.stay (.cells #[.int .i64 K', .int .i64 N', .int .i64 M'] 32))
        go_wp2_with (first
          | (go_at_call 9; refine (step_sides HI.out hl2 hlF _ _ _).mono ?_; rintro e w1 ⟨y, B, rfl, J⟩; have HJ := Lib.hid J; clear J)
          | (go_at_call 11; refine (step_take HI.out hl2 hlF _ _).mono ?_; rintro e w1 ⟨y, B, rfl, J⟩; have HJ := Lib.hid J; clear J)
          | (go_at_call 13; refine (step_give HI.out hl2 hlF _ _).mono ?_; rintro e w1 ⟨y, B, rfl, J⟩; have HJ := Lib.hid J; clear J)
          | (go_at_call 15; refine (step_work HI.out hl2 hlF _ _).mono ?_; rintro e w1 ⟨y, B, rfl, J⟩; have HJ := Lib.hid J; clear J))
        all_goals first | refine (step_first HJ.out).mono ?_ | (obtain ⟨y, J⟩ : ∃ y, FJ W l F x y (wr.alloc (.cells #[.int .i64 K', .int .i64 N', .int .i64 M'] 32)) := ⟨_, HJ0.out⟩; have HJ := Lib.hid J; clear J; refine (step_first HJ.out).mono ?_)
        all_goals
          rintro e w2 ⟨rfl, J2⟩
          have HJ2 := Lib.hid J2
          have d0 := blk_cell J2.blk 0
          have d1 := blk_cell J2.blk 1
          have f0 := blk_free J2.blk 0
          have f1 := blk_free J2.blk 1
          have hFw := blk_lt J2.blk
          have KB := Lib.hid (broken_calls l y.ls _ (J2.led.alloc (.cells #[.int .i64 y.r, .int .i64 y.a] 39)))
          clear J2 HJ0 HJ
          simp only [List.getElem?_toArray, List.getElem?_cons_succ, List.getElem?_cons_zero] at d0 d1
          cases hd
          · cases hy : (y.r != 0)
            · go_wp2_with fail
              go_roundg (101 - (k + 1))
              case measure => omega
              case rel => exact ⟨k + 1, y, false, by omega, rfl, by go_num, rfl, hy.symm, HJ2.out.close hlF (.cells #[.int .i64 y.r, .int .i64 y.a] 39) hFW⟩
            · have hbr : (y.ls.br != 0) = true := by
                have h0 : y.r ≠ 0 := by simpa using hy
                simp [St.ls, h0]
              go_wp2_with (go_at_call 21; refine KB.out.mono ?_; rintro e w' ⟨rfl, rfl⟩)
              go_roundg (101 - (k + 1))
              case measure => omega
              case rel => exact ⟨k + 1, y, true, by omega, rfl, by go_num, rfl, hy.symm, HJ2.out.close hlF (.cells #[.int .i64 y.r, .int .i64 y.a] 39) hFW⟩
          · have hx : x.r ≠ 0 := by have := HH.out; simpa using this.symm
            obtain ⟨e1, e2⟩ := HJ2.out.th.keep hx
            have hbr : (y.ls.br != 0) = true := by
              have h0 : y.r ≠ 0 := by rw [e1]; exact hx
              simp [St.ls, h0]
            have hy : (x.r != 0) = true := HH.out.symm
            have hy' : true = (y.r != 0) := by rw [e1]; exact HH.out
            have HY := Lib.hid hy'
            have HC2 := Lib.hid (HJ2.out.close hlF (.cells #[.int .i64 y.r, .int .i64 y.a] 39) hFW)
            rw [e1, e2] at HC2 KB
            rw [e1, e2]
            clear e1 e2 hy' hx
            go_wp2_with (go_at_call 21; refine KB.out.mono ?_; rintro e w' ⟨rfl, rfl⟩)
            go_roundg (101 - (k + 1))
            case measure => omega
            case rel => exact ⟨k + 1, y, true, by omega, rfl, by go_num, rfl, HY.out, HC2.out⟩
      · cases hd
        · go_wp2_with (go_at_call 22; refine (awake_calls _).mono ?_; rintro e w' ⟨rfl, g⟩)
          go_ret
          exact ⟨rfl, gb_trans HI.out.grown (by assumption)⟩
        · have hx : x.r ≠ 0 := by have := HH.out; simpa using this.symm
          have K1 := Lib.hid (work_broken l x 0 wr HI.out.led hx)
          have K2 := Lib.hid (take_broken l x 0 wr HI.out.led hx)
          have K3 := Lib.hid (sides_broken l x 1 1 wr HI.out.led hx)
          clear hx
          go_wp2_with (first | (go_at_call 22; refine (awake_calls _).mono ?_; rintro e w' ⟨rfl, g⟩) | (go_at_call 15; refine K1.out.mono ?_; rintro e w' ⟨rfl, rfl⟩) | (go_at_call 11; refine K2.out.mono ?_; rintro e w' ⟨rfl, rfl⟩) | (go_at_call 9; refine K3.out.mono ?_; rintro e w' ⟨rfl, rfl⟩))
          go_ret
          exact ⟨rfl, gb_trans HI.out.grown (by assumption)⟩
    · cases hd
      · go_wp2_with (go_at_call 22; refine (awake_calls _).mono ?_; rintro e w' ⟨rfl, g⟩)
        go_ret
        exact ⟨rfl, gb_trans HI.out.grown (by assumption)⟩
      · have hx : x.r ≠ 0 := by have := HH.out; simpa using this.symm
        have K1 := Lib.hid (work_broken l x 0 wr HI.out.led hx)
        have K2 := Lib.hid (take_broken l x 0 wr HI.out.led hx)
        have K3 := Lib.hid (sides_broken l x 1 1 wr HI.out.led hx)
        clear hx
        go_wp2_with (first | (go_at_call 22; refine (awake_calls _).mono ?_; rintro e w' ⟨rfl, g⟩) | (go_at_call 15; refine K1.out.mono ?_; rintro e w' ⟨rfl, rfl⟩) | (go_at_call 11; refine K2.out.mono ?_; rintro e w' ⟨rfl, rfl⟩) | (go_at_call 9; refine K3.out.mono ?_; rintro e w' ⟨rfl, rfl⟩))
        go_ret
        exact ⟨rfl, gb_trans HI.out.grown (by assumption)⟩

end Go.Proofs.Ytlliahflnfhgpaa.Le
