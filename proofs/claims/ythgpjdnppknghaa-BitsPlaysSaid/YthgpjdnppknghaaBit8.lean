/- Layer 6: the law BitsSame, walked. -/
import Derived.Test.YthgpjdnppknghaaBit7
import Derived.OwnWalk
namespace Go.Proofs.Ythgpjdnppknghaa.Bi
open Go.ChangeShapes Go.WideShapes Go.ChangeAt Go.RowKit
open Go.Proofs.Ythgpjdnppknghaa.Le Go.Proofs.Ythgpjdnppknghaa.Sr
set_option linter.unusedVariables false

theorem bitsV_one (low : Bool) (s : ByteArray) (k : Nat) : bitsV low s k 1 = bitAt low s k := by cases low <;> simp [bitsV, joinV]

theorem RS.grow {m r c l : Nat} {s : ByteArray} {a : Nat} {low : Bool} {p left : Nat} {last : Int} {w w' : World} {k : Option Nat} (h : RS m r c l s a low p left last w) (g : w.grownBy w' k) (hk : ∀ x, k = some x → x ≠ r ∧ x ≠ c ∧ x ≠ l) : RS m r c l s a low p left last w' :=
  ⟨h.bt.grown g (fun e => (hk _ e.symm).1 rfl), h.so.grown g (fun e => (hk _ e.symm).2.1 rfl), h.led.grown g (fun e => (hk _ e.symm).2.2 rfl), h.rl, h.pos, h.l8, h.la, h.sm, h.mb⟩

theorem row_turn {base e n : Nat} {v : Value} {xs : List Value} {w w' : World} {S : List Nat} (h : w.ownsRow base e 1 v n xs) (t : Tn w w' S) (hS : ∀ x, x ∈ S → x < base) : w'.ownsRow base e 1 v n xs := by
  obtain ⟨h1, h2 | ⟨g, cap, cur, e1, hg, hb, h3⟩⟩ := h
  · exact ⟨h1, .inl h2⟩
  · refine ⟨h1, .inr ⟨g, cap, cur, e1, hg, ?_, h3⟩⟩
    have hlt : g < w.heap.size := by
      rcases Nat.lt_or_ge g w.heap.size with h | h
      · exact h
      · rw [Array.getElem?_eq_none (by omega)] at hb; cases hb
    rw [t.block g hlt (fun hs => by have := hS g hs; omega)]
    exact hb

def bl (low : Bool) (s : ByteArray) (k : Nat) : List Value := (List.range k).map (fun j => Value.int .i64 (bitAt low s j))
theorem bl_succ (low : Bool) (s : ByteArray) (k : Nat) : bl low s (k + 1) = bl low s k ++ [Value.int .i64 (bitAt low s k)] := by simp [bl, List.range_succ]

/-- k bits are read one by one, and kept. -/
structure SI (W : World) (base r c l : Nat) (s : ByteArray) (low : Bool) (k : Nat) (v : Value) (wr : World) : Prop where
  rs : ∃ (p left : Nat) (last : Int), RS 1000 r c l s k low p left last wr ∧ left ≤ 7
  row : wr.ownsRow base 3 1 v k (bl low s k)
  rb : r < base
  cb : c < base
  lb : l < base
  rw_ : W.heap.size ≤ r
  cw : W.heap.size ≤ c
  lw : W.heap.size ≤ l
  own : W.grownBy wr none
  bs : base ≤ wr.heap.size

theorem SI.step {W : World} {base r c l : Nat} {s : ByteArray} {low : Bool} {k : Nat} {v v' : Value} {wr w1 w2 : World} (h : SI W base r c l s low k v wr) {p left : Nat} {last : Int} (R : RS 1000 r c l s (k + 1) low p left last w1) (h7 : left ≤ 7) (t : Tn wr w1 [r, c, l])
    {o : Obj} (hown : w2.ownsRow base 3 1 v' (k + 1) (bl low s k ++ [Value.int .i64 (bitAt low s k)])) (hg : (w1.alloc o).grownBy w2 v.ownBlock) : SI W base r c l s low (k + 1) v' w2 := by
  have hb : ∀ x, v.ownBlock = some x → base ≤ x := fun x hx => (h.row.lt x hx).1
  have G1 : W.grownBy (w1.alloc o) none := gb_trans (Tn.own h.own t (by have := h.rw_; have := h.cw; have := h.lw; simp; omega)) (World.grownBy_alloc _ _ _)
  refine ⟨⟨p, left, last, (R.go (World.grownBy_alloc _ _ _)).grow hg (fun x hx => by have := hb x hx; have := h.rb; have := h.cb; have := h.lb; omega), h7⟩, ?_, h.rb, h.cb, h.lb, h.rw_, h.cw, h.lw, ?_, ?_⟩
  · rw [bl_succ]; exact hown
  · cases hv : v.ownBlock with
    | none => rw [hv] at hg; exact gb_trans G1 hg
    | some g => rw [hv] at hg; exact gb_own G1 (by have := hb g hv; have := h.rb; have := h.rw_; omega) hg
  · have z1 := t.size; have z2 := hg.size; have z3 := h.bs; rw [size_alloc] at z2; omega

set_option maxRecDepth 100000 in
theorem number_zero (low : Bool) (s : ByteArray) (a : Nat) (ao : Option Addr) (cap : Nat) (w : World) :
    Calls Try.prog 20 #[.slice ao 0 cap, .bool low] w fun e w' => e = .returned (.int .i64 (bitsV low s a 0)) ∧ w = w' := by
  cases low <;>
  · go_enter Try.func20, Try.ntmps20
    go_wp2
    refine wp_loop_rounds 1 ?_
    rw [rounds_succ]
    go_wp2
    go_ret
    exact ⟨rfl, rfl⟩

theorem rowI : (Try.prog.info? 3).map (fun i => (i.zero, i.size, i.bytes)) = some (some (.int .i64 0), 1, 8) := by kernel_rfl
theorem undI : Try.prog.underlying 22 = some (.slice 3) := by kernel_rfl

theorem row_at {w : World} {base : Nat} {low : Bool} {s : ByteArray} {v : Value} {k : Nat} (h : w.ownsRow base 3 1 v k (bl low s k)) :
    (v = .slice none 0 0 ∧ k = 0) ∨ ∃ g cap, v = .slice (some ⟨g, 0, none⟩) k cap ∧ ∀ j, j < k → w.cell? ⟨g, 0 + j, none⟩ = some (.int .i64 (bitAt low s (0 + j))) := by
  have hc := fun g hg => World.ownsRow.cells h (g := g) hg
  obtain ⟨h1, h2 | ⟨g, cap, cur, e1, hg, hb, h3⟩⟩ := h
  · exact .inl h2
  · refine .inr ⟨g, cap, e1, fun j hj => ?_⟩
    have h := hc g (by rw [e1]; rfl) j (.int .i64 (bitAt low s j)) (by simp [bl, hj])
    rw [add_plain] at h
    simpa using h

set_option maxRecDepth 100000 in
set_option maxHeartbeats 2000000 in
theorem same_walk (s : ByteArray) (low : Bool) (n k : Nat) (W : World) (h1 : s.size ≤ 100) (hn : n ≤ 255) (hk : n % 33 = k) (hs : k ≤ 8 * s.size) :
    Calls Try.prog 4 #[.string s, .bool low, .int .u8 n] W fun e w' => e = .returned (.bool true) ∧ W.grownBy w' none := by
  have hmod : (n : Int) % 33 = (k : Int) := by omega
  have k32 : k ≤ 32 := by omega
  obtain ⟨i0, hi, hz0, hz1, hz2⟩ := info_parts rowI
  have HI0 := Lib.hid hi
  have HZ0 := Lib.hid hz0
  have HZ1 := Lib.hid hz1
  have HZ2 := Lib.hid hz2
  clear hk hi hz0 hz1 hz2
  go_enter Try.func4, Try.ntmps4
  go_wp2_with fail
  refine (wnew_calls 1000 (by decide) _).mono ?_
  rintro e w0 ⟨l, rfl, L0, g0, hl⟩
  have H0 := Lib.hid L0
  have G0 := Lib.hid g0
  have l0 := L0.lt
  clear L0 g0
  go_wp2_with fail
  refine (snew_calls l s _ (by omega)).mono ?_
  rintro e w1 ⟨c, rfl, S1, g1, hc⟩
  have H1 := Lib.hid (H0.out.grown g1 (by simp))
  have G1 := Lib.hid (gb_trans G0.out g1)
  have P1 := Lib.hid (S1 l0)
  have c1 := P1.out.lt
  have z0 := G0.out.size
  have z1 := g1.size
  clear S1 g1 H0 G0
  go_wp2_with fail
  refine (wnew_calls 1000 (by decide) _).mono ?_
  rintro e w2 ⟨l', rfl, L2, g2, hl'⟩
  have Q2 := Lib.hid L2
  have H2 := Lib.hid (H1.out.grown g2 (by simp))
  have P2 := Lib.hid (P1.out.grown g2 (by simp))
  have G2 := Lib.hid (gb_trans G1.out g2)
  have l2 := L2.lt
  have z2 := g2.size
  clear L2 g2 H1 G1 P1
  go_wp2_with fail
  refine (snew_calls l' s _ (by omega)).mono ?_
  rintro e w3 ⟨c', rfl, S3, g3, hc'⟩
  have Q3 := Lib.hid (Q2.out.grown g3 (by simp))
  have H3 := Lib.hid (H2.out.grown g3 (by simp))
  have P3 := Lib.hid (P2.out.grown g3 (by simp))
  have G3 := Lib.hid (gb_trans G2.out g3)
  have S3' := Lib.hid (S3 l2)
  have c3 := S3'.out.lt
  have z3 := g3.size
  clear S3 g3 H2 G2 P2 Q2
  go_wp2_with fail
  refine (bnew_calls c low _).mono ?_
  rintro e w4 ⟨r, rfl, B4, g4, hr⟩
  have Q4 := Lib.hid (Q3.out.grown g4 (by simp))
  have S4 := Lib.hid (S3'.out.grown g4 (by simp))
  have G4 := Lib.hid (gb_trans G3.out g4)
  have R4 := Lib.hid (RS.start (m := 1000) (B4 (by omega)) (P3.out.grown g4 (by simp)) (H3.out.grown g4 (by simp)) (by omega) (by omega) (by decide))
  have r4 := (B4 (by omega)).lt
  have z4 := g4.size
  clear B4 g4 H3 G3 P3 Q3 S3'
  go_wp2_with fail
  refine (bnew_calls c' low _).mono ?_
  rintro e w5 ⟨r', rfl, B5, g5, hr'⟩
  have G5 := Lib.hid (gb_trans G4.out g5)
  have R5 := Lib.hid (R4.out.go g5)
  have U5 := Lib.hid (RS.start (m := 1000) (B5 (by omega)) (S4.out.grown g5 (by simp)) (Q4.out.grown g5 (by simp)) (by omega) (by omega) (by decide))
  have r5 := (B5 (by omega)).lt
  have z5 := g5.size
  clear B5 g5 G4 R4 S4 Q4
  go_wp2_with fail
  refine (read_yes low 1000 r c l s 0 k 0 0 0 _ R5.out (by decide) k32 (by omega)).mono ?_
  rintro e w6 ⟨p6, left6, last6, rfl, ⟨S6, h6⟩, t6⟩
  have G6 := Lib.hid (Tn.own G5.out t6 (by simp; omega))
  have U6 := Lib.hid (show RS 1000 r' c' l' s 0 low 0 0 0 w6 from ⟨U5.out.bt.turned t6 (by simp; omega), U5.out.so.turned t6 (by simp; omega), U5.out.led.turned t6 (by simp; omega), U5.out.rl, U5.out.pos, U5.out.l8, U5.out.la, U5.out.sm, U5.out.mb⟩)
  have z6 := t6.size
  clear S6 h6 t6 G5 U5 R5
  obtain ⟨base, hbase⟩ : ∃ b, w6.heap.size = b := ⟨_, rfl⟩
  have J0 := Lib.hid (show SI W base r' c' l' s low 0 (.slice none 0 0) w6 from ⟨⟨0, 0, 0, U6.out, by decide⟩, World.ownsRow_nil _ _ _ _, by omega, by omega, by omega, by omega, by omega, by omega, G6.out, by omega⟩)
  obtain ⟨V, hV⟩ : ∃ V, bitsV low s 0 k = V := ⟨_, rfl⟩
  have HV := Lib.hid hV
  simp only [hV]
  clear U6 G6 hbase hV
  go_wp2_with fail
  go_loopg [18, 81] k (fun q v iv wr => ∃ (j : Nat), j ≤ k ∧ q = k - j ∧ iv = .int .i64 j ∧ SI W base r' c' l' s low j v wr)
  case atStart => exact ⟨0, Nat.zero_le _, rfl, rfl, J0.out⟩
  case round =>
    obtain ⟨j, hj, rfl, rfl, I⟩ := hrel
    have HI := Lib.hid I
    clear I J0
    by_cases hlt : j < k
    · obtain ⟨p, left, last, RR, h7⟩ := HI.out.rs
      have HR := Lib.hid RR
      clear RR
      go_wp2_with fail
      refine (read_yes low 1000 r' c' l' s j 1 p left last _ HR.out h7 (by decide) (by omega)).mono ?_
      rintro e w7 ⟨p7, left7, last7, rfl, ⟨S7, h7'⟩, t7⟩
      have HS := Lib.hid S7
      have HT := Lib.hid t7
      have HROW := Lib.hid (row_turn HI.out.row t7 (by have := HI.out.rb; have := HI.out.cb; have := HI.out.lb; simp; omega))
      have zb := HI.out.own.size
      have zs : base ≤ w7.heap.size := by have := HI.out.bs; have := t7.size; omega
      rw [bitsV_one]
      obtain ⟨x, hx⟩ : ∃ x, bitAt low s j = x := ⟨_, rfl⟩
      have HX := Lib.hid hx
      rw [hx]
      clear S7 t7 hx HR
      go_wp2_with (at_builtin; refine wpList_append_own _ rfl (.tmp 90) (.tmp 92) 22 rfl base 3 i0 (.int .i64 0) 1 8 undI HI0.out HZ0.out HZ1.out HZ2.out rfl (by decide) _ j (bl low s j) rfl (HROW.out.alloc _) ⟨w7.heap.size, 0, none⟩ 1 1 [.int .i64 x] rfl rfl ?c1 ?c2 ?c3 ?c4 ?c5 ?_)
      case c1 =>
        intro i u hu
        have hi0 : i = 0 := by
          rcases Nat.eq_zero_or_pos i with h | h
          · exact h
          · rw [List.getElem?_eq_none (by simp; omega)] at hu
            cases hu
        subst hi0
        have hu' : u = .int .i64 x := by simpa using hu.symm
        subst hu'
        exact blk_cell (blk_at (w := w7) (o := .cells #[.int .i64 x] 3)) 0
      case c2 => intro u hu; simp at hu; subst hu; rfl
      case c3 => unfold maxLen; omega
      case c4 => omega
      case c5 => rw [size_alloc]; omega
      intro v' w8 hown' hgrow _
      rw [← HX.out] at hown'
      have HJ := Lib.hid (HI.out.step HS.out h7' HT.out hown' hgrow)
      clear hown' hgrow HI HS HT HROW HX HI0 HZ0 HZ1 HZ2
      go_wp2_with fail
      go_roundg (k - (j + 1))
      case measure => omega
      case rel => exact ⟨j + 1, by omega, rfl, by go_num, HJ.out⟩
    · obtain rfl : j = k := by omega
      rcases row_at HI.out.row with ⟨rfl, hk0⟩ | ⟨g, cap, rfl, hcell⟩
      · subst hk0
        go_wp2_with fail
        refine (number_zero low s 0 none 0 _).mono ?_
        rintro e w' ⟨rfl, rfl⟩
        rw [HV.out]
        go_wp2_with fail
        refine (awake_calls _).mono ?_
        rintro e w9 ⟨rfl, g9⟩
        have G9 := Lib.hid (gb_trans HI.out.own g9)
        clear g9
        go_wp2
        go_ret
        exact ⟨rfl, G9.out⟩
      · have HC := Lib.hid hcell
        clear hcell
        go_wp2_with fail
        refine (number_calls low s 0 g 0 j cap _ k32 HC.out).mono ?_
        rintro e w' ⟨rfl, rfl⟩
        rw [HV.out]
        go_wp2_with fail
        refine (awake_calls _).mono ?_
        rintro e w9 ⟨rfl, g9⟩
        have G9 := Lib.hid (gb_trans HI.out.own g9)
        clear g9
        go_wp2
        go_ret
        exact ⟨rfl, G9.out⟩

set_option maxRecDepth 100000 in
/-- It isn't asked. -/
theorem same_far (s : ByteArray) (low : Bool) (n : Nat) (W : World) (hn : n ≤ 255) (h : 100 < s.size ∨ 8 * s.size < n % 33) (hs : s.size ≤ 9223372036854775807) :
    Calls Try.prog 4 #[.string s, .bool low, .int .u8 n] W fun e w' => e = .returned (.bool true) ∧ W.grownBy w' none := by
  by_cases h1 : 100 < s.size
  · clear h
    go_enter Try.func4, Try.ntmps4
    go_wp2_with fail
    refine (awake_calls _).mono ?_
    rintro e w9 ⟨rfl, g9⟩
    have G9 := Lib.hid g9
    clear g9
    go_wp2
    go_ret
    exact ⟨rfl, G9.out⟩
  · obtain ⟨k, hk⟩ : ∃ k, n % 33 = k := ⟨_, rfl⟩
    rw [hk] at h
    have h2 : 8 * s.size < k := by omega
    have h3 : s.size ≤ 100 := by omega
    have hmod : (n : Int) % 33 = (k : Int) := by omega
    have k32 : k ≤ 32 := by omega
    clear h h1 hk
    go_enter Try.func4, Try.ntmps4
    go_wp2_with fail
    refine (awake_calls _).mono ?_
    rintro e w9 ⟨rfl, g9⟩
    have G9 := Lib.hid g9
    clear g9
    go_wp2
    go_ret
    exact ⟨rfl, G9.out⟩

theorem same_any (s : ByteArray) (low : Bool) (n : Nat) (W : World) (hn : n ≤ 255) (hs : s.size ≤ 9223372036854775807) :
    Calls Try.prog 4 #[.string s, .bool low, .int .u8 n] W fun e w' => e = .returned (.bool true) ∧ W.grownBy w' none := by
  by_cases h : 100 < s.size ∨ 8 * s.size < n % 33
  · exact same_far s low n W hn h hs
  · exact same_walk s low n _ W (by omega) hn rfl (by omega)

end Go.Proofs.Ythgpjdnppknghaa.Bi
