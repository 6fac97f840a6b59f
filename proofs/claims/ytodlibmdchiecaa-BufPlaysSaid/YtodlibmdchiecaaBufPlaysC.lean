/- The law BufPlays, walked. -/
import Derived.Test.YtodlibmdchiecaaBufPlays2
import Derived.Deep.RegionHeld3
import Derived.Deep.LoopGhost
import Derived.Deep.QuietTactic
import Derived.BigQuiet
namespace Go.Proofs.Ytodlibmdchiecaa.Bu
open Go.ChangeShapes Go.WideShapes Go.ChangeAt Go.RowKit
open Go.Proofs.Ytodlibmdchiecaa.Le
set_option linter.unusedVariables false

/-- What holds at every round's head: X is the block of the document's state. -/
structure PX (W : World) (b l g X : Nat) (o : Bool) (s : ByteArray) (y : Int) (w : World) : Prop where
  bf : Bf b l g o s w
  kp : Keeps l 100 y w
  sy : (s.size : Int) ≤ y
  blk : w.heap[X]? = some (.cells #[.string s, .bool o, .int .i64 y] 33 (0, 0))
  grown : W.grownBy w none
theorem PX.pb {W w : World} {b l g X : Nat} {o : Bool} {s : ByteArray} {y : Int} (I : PX W b l g X o s y w) : PB w b l g o s y w := ⟨I.bf, I.kp, I.sy, Tn.refl _ _⟩
theorem PX.drewN {W w : World} {b l g X : Nat} {o : Bool} {s : ByteArray} {y : Int} (I : PX W b l g X o s y w) (n : Nat) : PX W b l g X o s y (w.drewN n) :=
  ⟨I.bf.grown (gb_drewN w n none) (by simp) (by simp), I.kp.grown (gb_drewN w n none) (by simp), I.sy, I.blk, gb_trans I.grown (gb_drewN w n none)⟩
theorem PB.self {W w : World} {b l g : Nat} {o : Bool} {s : ByteArray} {y : Int} (I : PB W b l g o s y w) : PB w b l g o s y w := ⟨I.bf, I.kp, I.sy, Tn.refl _ _⟩

theorem PX.next {W wr w : World} {b l g X : Nat} {o o' : Bool} {s s' : ByteArray} {y y' : Int} (I : PX W b l g X o s y wr) (J : PB wr b l g o' s' y' w) (hb : b < X) (hl : l < X) (hg : g < X)
    (wb : W.heap.size ≤ b) (wl : W.heap.size ≤ l) (wg : W.heap.size ≤ g) :
    w.heap[X]? = some (.cells #[.string s, .bool o, .int .i64 y] 33 (0, 0)) ∧ W.grownBy w none := by
  refine ⟨(J.grown.block X (blk_lt I.blk) ?_).trans I.blk, J.grown.own I.grown ?_⟩
  · simp only [List.mem_cons, List.not_mem_nil, or_false, not_or]; omega
  · intro x hx
    simp only [List.mem_cons, List.not_mem_nil, or_false] at hx
    rcases hx with rfl | rfl | rfl
    · exact .inl wb
    · exact .inl wl
    · exact .inl wg
theorem PX.put {W wr w : World} {b l g X : Nat} {o o' : Bool} {s s' : ByteArray} {y y' : Int} (I : PX W b l g X o s y wr) (J : PB wr b l g o' s' y' w) (hb : b < X) (hl : l < X) (hg : g < X)
    (wb : W.heap.size ≤ b) (wl : W.heap.size ≤ l) (wg : W.heap.size ≤ g) (wX : W.heap.size ≤ X) :
    PX W b l g X o' s' y' (((w.setCell ⟨X, 0, none⟩ (.string s')).setCell ⟨X, 1, none⟩ (.bool o')).setCell ⟨X, 2, none⟩ (.int .i64 y')) := by
  obtain ⟨bx, G⟩ := I.next J hb hl hg wb wl wg
  have g1 := gb_set w X 0 (.string s')
  have g2 := gb_trans g1 (gb_set _ X 1 (.bool o'))
  have g3 := gb_trans g2 (gb_set _ X 2 (.int .i64 y'))
  refine ⟨J.bf.grown g3 (by simp; omega) (by simp; omega), J.kp.grown g3 (by simp; omega), J.sy, ?_, gb_own G wX g3⟩
  have h := blk_set (blk_set (blk_set bx 0 (.string s')) 1 (.bool o')) 2 (.int .i64 y')
  simpa using h

theorem keep3c {w : World} {q : Nat} {u v x val : Value} {a : Addr} (h : w.cell? a = some val) (hne : a.block ≠ q) :
    (((w.setCell ⟨q, 0, none⟩ u).setCell ⟨q, 1, none⟩ v).setCell ⟨q, 2, none⟩ x).cell? a = some val :=
  (gb_set _ q 2 x).cell ((gb_set _ q 1 v).cell ((gb_set w q 0 u).cell h (by simpa using hne)) (by simpa using hne)) (by simpa using hne)
theorem qlen {W wr : World} {b l g X : Nat} {o : Bool} {s : ByteArray} {y : Int} (I : PX W b l g X o s y wr) (n : Nat) : Calls Try.prog 11 #[.pointer (some ⟨b, 0, none⟩)] (wr.drewN n) fun e w' => e = .returned (.int .i64 s.size) ∧ wr.drewN n = w' :=
  len_calls b l g o s (wr.drewN n) (I.drewN n).bf
theorem qbytes {W wr : World} {b l g X : Nat} {o : Bool} {s : ByteArray} {y : Int} (I : PX W b l g X o s y wr) (n : Nat) : Calls Try.prog 12 #[.pointer (some ⟨l, 0, none⟩)] (wr.drewN n) fun e w' => e = .returned (.int .i64 y) ∧ wr.drewN n = w' :=
  bytes_k l 100 y (wr.drewN n) (I.drewN n).kp
theorem quiet_left {P : Program} {f : FuncId} {args : Array Value} {w : World} {n : Nat} {v : Value}
    (h : Calls P f args (w.drewN n) fun e w' => e = .returned v ∧ w.drewN n = w') : Calls P f args (w.drewN n) fun e w'' => e = .returned v ∧ ∃ m, w'' = w.drewN m :=
  h.mono fun _ _ ⟨he, hm⟩ => ⟨he, n, hm.symm⟩

/-- The five cells of a call. -/
def OpAt (w : World) (b o : Nat) (k i n : Int) (v : UInt8) (S : ByteArray) : Prop :=
  w.cell? ⟨b, o, none⟩ = some (.int .i64 k) ∧ w.cell? ⟨b, o + 1, none⟩ = some (.int .i64 i) ∧ w.cell? ⟨b, o + 2, none⟩ = some (.int .i64 n) ∧ w.cell? ⟨b, o + 3, none⟩ = some (.int .u8 (v.toNat : Int)) ∧ w.cell? ⟨b, o + 4, none⟩ = some (.string S)

/-- One call of both answers alike, whatever it is. -/
def OneOk : Prop := ∀ (w : World) (b l g : Nat) (o : Bool) (s : ByteArray) (y : Int), PB w b l g o s y w → ∀ (k i n : Int) (v : UInt8) (S : ByteArray), i ≤ 9223372036854775807 → g < w.heap.size →
  Calls Try.prog 10 #[.pointer (some ⟨b, 0, none⟩), .agg #[.string s, .bool o, .int .i64 y], .agg #[.int .i64 k, .int .i64 i, .int .i64 n, .int .u8 (v.toNat : Int), .string S]] w (Went w b l g)

set_option maxRecDepth 100000 in
set_option maxHeartbeats 4000000 in
theorem bplays_walk (HO : OneOk) (N : Nat) (hN : N ≤ 255) (a : Option Addr) (p off len cap : Nat) (K I M : Nat → Int) (V : Nat → UInt8) (S : Nat → ByteArray) (W : World) (ha : 0 < len → a = some ⟨p, off, none⟩) (hbig : len ≤ 9223372036854775807)
    (hc : ∀ i, i < len → OpAt W p (off + i * 5) (K i) (I i) (M i) (V i) (S i) ∧ I i ≤ 9223372036854775807 ∧ (S i).size ≤ 9223372036854775807) :
    Calls Try.prog 3 #[.int .u8 (N : Int), .slice a len cap] W fun e w' => e = .returned (.bool true) ∧ W.grownBy w' none := by
  have HC := Lib.hid hc
  have HA := Lib.hid ha
  clear hc ha
  go_enter Try.func3, Try.ntmps3
  go_wp2_with fail
  have hmod : ((N : Int) % 40) = ((N % 40 : Nat) : Int) := by omega
  obtain ⟨kk, hkk⟩ : ∃ kk, N % 40 = kk := ⟨_, rfl⟩
  have kk40 : kk < 40 := by omega
  rw [hkk] at hmod
  simp only [hmod]
  clear hmod hkk
  refine (new_k 100 (by decide) (by decide) _).mono ?_
  rintro e w0 ⟨l, rfl, L0, g0, wl⟩
  have H0 := Lib.hid L0
  have G0 := Lib.hid g0
  clear L0 g0
  go_wp2_with fail
  refine (make_k l 100 0 kk w0 H0.out (by omega) (by omega)).mono ?_
  rintro e w1 ⟨b, g, rfl, ⟨B1, K1⟩, g1, hb1, hg1⟩
  have wb : W.heap.size ≤ b := by have := G0.out.size; omega
  have wg : W.heap.size ≤ g := by have := G0.out.size; omega
  rw [show (0 : Int) + kk = kk from by omega] at K1
  have HB := Lib.hid B1
  have HK := Lib.hid K1
  have G1 := Lib.hid (gb_own G0.out wl g1)
  clear B1 K1 g1 hb1 hg1 H0 G0
  go_wp2_with fail
  refine (same_calls 0 kk w1 (by omega)).mono ?_
  rintro e w2 ⟨rfl, g2⟩
  obtain ⟨X, hX⟩ : ∃ X, w2.heap.size = X := ⟨_, rfl⟩
  have hs2 := g2.size
  have hbX : b < X := by have := HB.out.lt; omega
  have hgX : g < X := by have := HB.out.glt; omega
  have hlX : l < X := by have := HK.out.lt; omega
  have wX : W.heap.size ≤ X := by omega
  obtain ⟨s0, hs0⟩ : ∃ s0, rep 0 kk = s0 := ⟨_, rfl⟩
  have hz0 := rep_size 0 kk
  rw [hs0] at hz0
  have P0 := Lib.hid (show PX W b l g X true s0 kk (w2.alloc (.cells #[.string s0, .bool true, .int .i64 (kk : Int)] 33)) from
    ⟨(Bf.grown (.inl ⟨rfl, hs0 ▸ HB.out⟩) g2 (by simp) (by simp)).grown (World.grownBy_alloc _ _ none) (by simp) (by simp), (HK.out.grown g2 (by simp)).grown (World.grownBy_alloc _ _ none) (by simp), by omega, hX ▸ blk_at,
      gb_trans (gb_trans G1.out g2) (World.grownBy_alloc _ _ none)⟩)
  have HX := Lib.hid hX
  have HS0 := Lib.hid hs0
  clear g2 HB HK G1 hX hs0 hz0 hs2
  go_wp2_with fail
  simp only [HX.out, HS0.out]
  clear HX HS0
  go_loopg [10] 81 (fun q iv wr => ∃ (k : Nat) (s : ByteArray) (o : Bool) (y : Int), k ≤ 80 ∧ q = 81 - k ∧ iv = .int .i64 k ∧ PX W b l g X o s y wr)
  case atStart => exact ⟨0, _, _, _, by omega, rfl, rfl, P0.out⟩
  case round =>
    obtain ⟨k, s, o, y, hk, rfl, rfl, J⟩ := hrel
    have HI := Lib.hid J
    clear J P0
    by_cases hlt : k < len
    · by_cases h80 : k < 80
      · obtain rfl := HA.out (by omega)
        obtain ⟨⟨f0, f1, f2, f3, f4⟩, fI, fS⟩ := HC.out k hlt
        obtain ⟨K', hK⟩ : ∃ x, K k = x := ⟨_, rfl⟩
        obtain ⟨I', hI⟩ : ∃ x, I k = x := ⟨_, rfl⟩
        obtain ⟨M', hM⟩ : ∃ x, M k = x := ⟨_, rfl⟩
        obtain ⟨S', hS⟩ : ∃ x, S k = x := ⟨_, rfl⟩
        have HONE := Lib.hid (fun (w' : World) (J : PB w' b l g o s y w') (h : g < w'.heap.size) => HO w' b l g o s y J K' I' M' (V k) S' (hI ▸ fI) h)
        obtain ⟨V', hV⟩ : ∃ x : Int, ((V k).toNat : Int) = x := ⟨_, rfl⟩
        rw [hK] at f0
        rw [hI] at f1 fI
        rw [hM] at f2
        rw [hV] at f3 HONE
        rw [hS] at f4 fS
        have c0 := HI.out.grown.cell f0 (by simp)
        have c1 := HI.out.grown.cell f1 (by simp)
        have c2 := HI.out.grown.cell f2 (by simp)
        have c3 := HI.out.grown.cell f3 (by simp)
        have c4 := HI.out.grown.cell f4 (by simp)
        have hpw : p < W.heap.size := by have := World.block_lt_of_cell? W ⟨p, off + k * 5, none⟩ f0; simpa using this
        have hWw := HI.out.grown.size
        have F0 := Lib.hid f0
        have F1 := Lib.hid f1
        have F2 := Lib.hid f2
        have F3 := Lib.hid f3
        have F4 := Lib.hid f4
        clear hK hI hM hS hV f0 f1 f2 f3 f4
        by_cases h100 : S'.size ≤ 100
        · have x0 := blk_cell HI.out.blk 0
          have x1 := blk_cell HI.out.blk 1
          have x2 := blk_cell HI.out.blk 2
          simp only [List.getElem?_toArray, List.getElem?_cons_succ, List.getElem?_cons_zero] at x0 x1 x2
          have hXw := blk_lt HI.out.blk
          have hgw : g < wr.heap.size := by omega
          go_wp2_with fail
          have ax0 := fun o => (World.grownBy_alloc wr o none).cell x0 (by simp)
          have ax1 := fun o => (World.grownBy_alloc wr o none).cell x1 (by simp)
          have ax2 := fun o => (World.grownBy_alloc wr o none).cell x2 (by simp)
          have ac0 := fun o => (World.grownBy_alloc wr o none).cell c0 (by simp)
          have ac1 := fun o => (World.grownBy_alloc wr o none).cell c1 (by simp)
          have ac2 := fun o => (World.grownBy_alloc wr o none).cell c2 (by simp)
          have ac3 := fun o => (World.grownBy_alloc wr o none).cell c3 (by simp)
          have ac4 := fun o => (World.grownBy_alloc wr o none).cell c4 (by simp)
          go_region_held3 (fun w' => w'.cell? ⟨X, 0, none⟩ = some (.string s) ∧ w'.cell? ⟨X, 1, none⟩ = some (.bool o) ∧ w'.cell? ⟨X, 2, none⟩ = some (.int .i64 y) ∧ w'.cell? ⟨p, off + k * 5, none⟩ = some (.int .i64 K') ∧ w'.cell? ⟨p, off + k * 5 + 1, none⟩ = some (.int .i64 I') ∧ w'.cell? ⟨p, off + k * 5 + 2, none⟩ = some (.int .i64 M') ∧ w'.cell? ⟨p, off + k * 5 + 3, none⟩ = some (.int .u8 V') ∧ w'.cell? ⟨p, off + k * 5 + 4, none⟩ = some (.string S')) ((first | go_keep | exact ⟨keep3c x07 (by dsimp only; omega), keep3c x17 (by dsimp only; omega), keep3c x27 (by dsimp only; omega), keep3c c07 (by dsimp only; omega), keep3c c17 (by dsimp only; omega), keep3c c27 (by dsimp only; omega), keep3c c37 (by dsimp only; omega), keep3c c47 (by dsimp only; omega)⟩))
            (first | (go_at_call 10; refine (HONE.out _ (by first | exact HI.out.pb.drew.self | exact (HI.out.pb.al _).drew.self | exact (HI.out.pb.drew.al _).self) (by first | exact hgw | (show g < (wr.alloc _).heap.size; rw [size_alloc]; omega))).mono ?_; rintro e w3 ⟨s', o', y', rfl, J⟩; have T : Tn wr w3 [b, l, g] := (by first | exact (Tn.drew wr _).trans J.grown | exact (Tn.gb (gb_trans (World.grownBy_alloc wr _ none) (gb_drew _ none)) (fun x e => by simp at e)).trans J.grown); have J3 : PB wr b l g o' s' y' w3 := ⟨J.bf, J.kp, J.sy, T⟩; have nx := HI.out.next J3 hbX hlX hgX wb wl wg; have x07 := blk_cell nx.1 0; have x17 := blk_cell nx.1 1; have x27 := blk_cell nx.1 2; simp only [List.getElem?_toArray, List.getElem?_cons_succ, List.getElem?_cons_zero] at x07 x17 x27; have c07 := nx.2.cell F0.out (by simp); have c17 := nx.2.cell F1.out (by simp); have c27 := nx.2.cell F2.out (by simp); have c37 := nx.2.cell F3.out (by simp); have c47 := nx.2.cell F4.out (by simp); (try (have by3 : w3.heap[wr.heap.size]? = _ := (J.grown.block wr.heap.size (by show wr.heap.size < (wr.alloc _).heap.size; rw [size_alloc]; omega) (by simp only [List.mem_cons, List.not_mem_nil, or_false, not_or]; omega)).trans blk_at; have u0 := blk_cell by3 0; have u1 := blk_cell by3 1; have u2 := blk_cell by3 2; simp only [List.getElem?_toArray, List.getElem?_cons_succ, List.getElem?_cons_zero] at u0 u1 u2; have fu := fun o => blk_free by3 o; have HBY := Lib.hid by3; clear by3)); have hs3 := T.size; have HJ3 := Lib.hid J3; clear J T J3 nx))
          all_goals
            clear HC HONE ax0 ax1 ax2 ac0 ac1 ac2 ac3 ac4 x0 x1 x2 c0 c1 c2 c3 c4 x07 x17 x27 c07 c17 c27 c37 c47 F0 F1 F2 F3 F4
          · (have J5 := HJ3.out.al (.cells #[.string s', .bool o', .int .i64 y'] 33)
             have nx5 := HI.out.next J5 hbX hlX hgX wb wl wg
             have PX5 := HI.out.put J5 hbX hlX hgX wb wl wg wX
             obtain ⟨w5, hw5⟩ : ∃ w5, w3.alloc (.cells #[.string s', .bool o', .int .i64 y'] 33) = w5 := ⟨_, rfl⟩
             simp only [hw5]
             have bq := blk_at (w := w3) (o := .cells #[.string s', .bool o', .int .i64 y'] 33)
             have v0 := blk_cell bq 0
             have v1 := blk_cell bq 1
             have v2 := blk_cell bq 2
             simp only [List.getElem?_toArray, List.getElem?_cons_succ, List.getElem?_cons_zero] at v0 v1 v2
             clear bq
             rw [hw5] at nx5 PX5 v0 v1 v2
             have e0 := blk_cell nx5.1 0
             have e1 := blk_cell nx5.1 1
             have e2 := blk_cell nx5.1 2
             simp only [List.getElem?_toArray, List.getElem?_cons_succ, List.getElem?_cons_zero] at e0 e1 e2
             have fe := fun o => blk_free nx5.1 o
             have HPX := Lib.hid PX5
             clear nx5 PX5 J5 hw5 HI HJ3
             go_wp2_with fail
             have y0 := blk_cell HPX.out.blk 0
             have y1 := blk_cell HPX.out.blk 1
             have y2 := blk_cell HPX.out.blk 2
             simp only [List.getElem?_toArray, List.getElem?_cons_succ, List.getElem?_cons_zero] at y0 y1 y2
             obtain ⟨w6, hw6⟩ : ∃ w6, (((w5.setCell ⟨X, 0, none⟩ (.string s')).setCell ⟨X, 1, none⟩ (.bool o')).setCell ⟨X, 2, none⟩ (.int .i64 y')) = w6 := ⟨_, rfl⟩
             have HPX6 := Lib.hid (hw6 ▸ HPX.out)
             rw [hw6] at y0 y1 y2
             simp only [hw6]
             clear hw6 HPX e0 e1 e2 fe
             go_quiet ((first
               | (go_at_call 11; exact quiet_left (qlen HPX6.out _))
               | (go_at_call 12; exact quiet_left (qbytes HPX6.out _))))
             go_wp2_with fail
             go_roundg (81 - (k + 1))
             case measure => omega
             case rel => exact ⟨k + 1, s', o', y', by omega, rfl, by go_num, HPX6.out.drewN _⟩)
          · (have J5 := HJ3.out.put3 wr.heap.size (.string s') (.bool o') (.int .i64 y') (by omega) (by omega) (by omega) (by omega)
             have nx5 := HI.out.next J5 hbX hlX hgX wb wl wg
             have PX5 := HI.out.put J5 hbX hlX hgX wb wl wg wX
             obtain ⟨w5, hw5⟩ : ∃ w5, (((w3.setCell ⟨wr.heap.size, 0, none⟩ (.string s')).setCell ⟨wr.heap.size, 1, none⟩ (.bool o')).setCell ⟨wr.heap.size, 2, none⟩ (.int .i64 y')) = w5 := ⟨_, rfl⟩
             simp only [hw5]
             have bq := blk_set (blk_set (blk_set HBY.out 0 (.string s')) 1 (.bool o')) 2 (.int .i64 y')
             have v0 := blk_cell bq 0
             have v1 := blk_cell bq 1
             have v2 := blk_cell bq 2
             simp only [List.setIfInBounds_toArray, List.set_cons_zero, List.set_cons_succ, List.getElem?_toArray, List.getElem?_cons_succ, List.getElem?_cons_zero] at v0 v1 v2
             clear bq
             rw [hw5] at nx5 PX5 v0 v1 v2
             have e0 := blk_cell nx5.1 0
             have e1 := blk_cell nx5.1 1
             have e2 := blk_cell nx5.1 2
             simp only [List.getElem?_toArray, List.getElem?_cons_succ, List.getElem?_cons_zero] at e0 e1 e2
             have fe := fun o => blk_free nx5.1 o
             have HPX := Lib.hid PX5
             clear nx5 PX5 J5 hw5 HI HJ3
             go_wp2_with fail
             have y0 := blk_cell HPX.out.blk 0
             have y1 := blk_cell HPX.out.blk 1
             have y2 := blk_cell HPX.out.blk 2
             simp only [List.getElem?_toArray, List.getElem?_cons_succ, List.getElem?_cons_zero] at y0 y1 y2
             obtain ⟨w6, hw6⟩ : ∃ w6, (((w5.setCell ⟨X, 0, none⟩ (.string s')).setCell ⟨X, 1, none⟩ (.bool o')).setCell ⟨X, 2, none⟩ (.int .i64 y')) = w6 := ⟨_, rfl⟩
             have HPX6 := Lib.hid (hw6 ▸ HPX.out)
             rw [hw6] at y0 y1 y2
             simp only [hw6]
             clear hw6 HPX e0 e1 e2 fe
             go_quiet ((first
               | (go_at_call 11; exact quiet_left (qlen HPX6.out _))
               | (go_at_call 12; exact quiet_left (qbytes HPX6.out _))))
             go_wp2_with fail
             go_roundg (81 - (k + 1))
             case measure => omega
             case rel => exact ⟨k + 1, s', o', y', by omega, rfl, by go_num, HPX6.out.drewN _⟩)
        · have h100' : 100 < S'.size := by omega
          clear h100 HONE
          go_wp2_with fail
          refine (awake_calls _).mono ?_
          rintro e w3 ⟨rfl, g3⟩
          have G3 := Lib.hid (gb_trans HI.out.grown g3)
          clear g3
          go_wp2
          go_ret
          exact ⟨rfl, G3.out⟩
      · go_wp2_with fail
        refine (awake_calls _).mono ?_
        rintro e w3 ⟨rfl, g3⟩
        have G3 := Lib.hid (gb_trans HI.out.grown g3)
        clear g3
        go_wp2
        go_ret
        exact ⟨rfl, G3.out⟩
    · go_wp2_with fail
      refine (awake_calls _).mono ?_
      rintro e w3 ⟨rfl, g3⟩
      have G3 := Lib.hid (gb_trans HI.out.grown g3)
      clear g3
      go_wp2
      go_ret
      exact ⟨rfl, G3.out⟩

end Go.Proofs.Ytodlibmdchiecaa.Bu
