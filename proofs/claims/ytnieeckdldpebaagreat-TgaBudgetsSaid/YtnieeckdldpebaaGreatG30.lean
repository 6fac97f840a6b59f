/- Texts of one kind, one behind the other: PalX. -/
import Derived.Test.YtnieeckdldpebaaGreatG19
/- Layer 10: a palette's Read, by any ledger, from any place on (written by wip/gen/pal_readg.py). -/
namespace Go.Proofs.YtnieeckdldpebaaGreat.Pa.Rg
open Go.ChangeShapes Go.WideShapes Go.ChangeAt Go.RowKit
open Go.Proofs.YtnieeckdldpebaaGreat.Sc Go.Proofs.YtnieeckdldpebaaGreat.Le Go.Proofs.YtnieeckdldpebaaGreat.Pa
set_option linter.unusedVariables false

theorem po_turned {p b l g n most : Nat} {S : ByteArray} {w w' : World} {R : List Nat} (h : Po p b l g n most S w) (k : Tn w w' R) (h1 : p ∉ R) (h2 : b ∉ R) (h3 : g ∉ R) : Po p b l g n most S w' :=
  ⟨(k.block p (blk_lt h.blk) h1).trans h.blk, ⟨(k.block b h.buf.lt h2).trans h.buf.blk, (k.block g h.buf.glt h3).trans h.buf.byt, h.buf.big, h.buf.bl, h.buf.bg, h.buf.gl⟩, h.size, h.le, h.big, h.pb, h.pl, h.pg⟩

/-- A ledger behind k further steps that were asked for, one by one. -/
def wk (x : St) : Nat → St
  | 0 => x
  | k + 1 => ((wk x k).work 1).1
theorem wk_ok {x : St} (h : x.Ok) : ∀ k, (wk x k).Ok
  | 0 => h
  | k + 1 => (wk_ok h k).work 1

/-- What holds at the head of the loop over the entries. -/
structure RI (W : World) (p b l g x q n most : Nat) (s : ByteArray) (o f t sz : Nat) (Y : St) (D : Nat → Nat → Int) (C : Array Value) (k : Nat) (w : World) : Prop where
  po : ∃ S, Po p b l g (n + k) most S w ∧ EntOf S (n + k) D
  so : Sr.So x l s (o + k * sz) f t w
  led : Led l (wk Y k).ls w
  box : w.heap[q]? = some (.cells C 193 (0, 0))
  tn : Tn W w [p, g, x, l]

/-- The blocks lie apart. -/
structure Apart (p b l g x q : Nat) : Prop where
  xp : x ≠ p
  xb : x ≠ b
  xg : x ≠ g
  xl : x ≠ l
  pl : p ≠ l
  pg : p ≠ g
  gl : g ≠ l
  bl : b ≠ l
  qp : q ≠ p
  qg : q ≠ g
  qx : q ≠ x
  ql : q ≠ l

theorem RI.next {W : World} {p b l g x q n most : Nat} {s : ByteArray} {o f t sz : Nat} {Y : St} {D : Nat → Nat → Int} {C : Array Value} {k : Nat} {w w3 w4 w5 : World} (A : Apart p b l g x q) (h : RI W p b l g x q n most s o f t sz Y D C k w)
    (so : Sr.So x l s (o + k * sz + sz) f t w3) (led : Led l ((wk Y k).work 1).1.ls w3) (t3 : Tn w w3 [x, l]) (g4 : w3.grownBy w4 none)
    (hp : ∃ S, Po p b l g (n + k + 1) most S w5 ∧ EntOf S (n + k + 1) D ∧ Tn w4 w5 [p, g]) : RI W p b l g x q n most s o f t sz Y D C (k + 1) w5 := by
  obtain ⟨S, h1, h2, t5⟩ := hp
  have a := A.xp; have b' := A.xg; have c := A.pl; have d := A.gl; have e := A.qp; have f' := A.qg; have i := A.qx; have j := A.ql
  have t35 : Tn w3 w5 [p, g] := (Tn.gb g4 (by simp)).trans t5
  refine ⟨⟨S, by rw [← Nat.add_assoc]; exact h1, by rw [← Nat.add_assoc]; exact h2⟩, ?_, ?_, ?_, ?_⟩
  · rw [show o + (k + 1) * sz = o + k * sz + sz from by rw [Nat.succ_mul]; omega]
    exact so.turned t35 (by simp [a, b'])
  · exact (t35.block l led.lt (by simp [c.symm, d.symm])).trans led
  · have h3 := (t3.block q (blk_lt h.box) (by simp [i, j])).trans h.box
    exact (t35.block q (blk_lt h3) (by simp [e, f'])).trans h3
  · exact (h.tn.trans (t3.mono (by simp))).trans (t35.mono (by simp))

/-- Behind Read: K entries of N were read. -/
def ReadPost (W : World) (p b l g x n most : Nat) (s : ByteArray) (o f t sz N K : Nat) (Y : St) (D : Nat → Nat → Int) (e : Ending) (w' : World) : Prop :=
  e = .returned (.int .i64 (if K = N then 0 else 5)) ∧ ∃ S, Po p b l g (n + K) most S w' ∧ EntOf S (n + K) D ∧ Led l (wk Y (if K = N then N else K + 1)).ls w' ∧ Sr.So x l s (o + K * sz) f t w' ∧ Tn W w' [p, g, x, l]

set_option maxRecDepth 100000 in
set_option maxHeartbeats 2000000 in
theorem read_0 (p b l g x n most N K : Nat) (S : ByteArray) (s : ByteArray) (o f t : Nat) (Y : St) (D : Nat → Nat → Int) (W : World) (hP : Po p b l g n most S W) (hE : EntOf S n D) (hm1 : 1 ≤ most) (hNm : N ≤ most - n)
    (hS : Sr.So x l s o f t W) (hL : Led l Y.ls W) (ok : Y.Ok) (hN : N ≤ 65536) (xp : x ≠ p) (xb : x ≠ b) (xg : x ≠ g)
    (hD : ∀ k, k < K → ∀ j, j < 4 → D (n + k) j = entAt 0 s (o + k * 2) j) (k1 : K ≤ N) (k2 : ∀ k, k < K → Sr.rdB (wk Y k) (o + k * 2) t 2 = true) (k3 : K = N ∨ Sr.rdB (wk Y K) (o + K * 2) t 2 = false) :
    Calls Tryz.prog 126 #[.pointer (some ⟨p, 0, none⟩), .pointer (some ⟨x, 0, none⟩), .int .i64 N, .int .i64 2] W (ReadPost W p b l g x n most s o f t 2 N K Y D) := by
  have K0 : ∀ u, Calls Tryz.prog 127 #[.int .i64 2] u fun e w' => e = .returned (.tuple #[.agg #[.int .i64 2, .int .i64 2, .func (.func 149) #[] #[]], .bool true]) ∧ u.grownBy w' none := fun u => find_yes 0 2 u (by decide) rfl
  have KR := fun u (hu : Po p b l g n most S u) => room_calls p b l g n most S u hu
  have KL := fun u (hu : Bu.BOpen b l g S u) => Bu.len_calls b l g true S u (.inl ⟨rfl, hu⟩)
  have e4 : ((S.size : Nat) : Int) = 4 * (most : Int) := by have := hP.size; omega
  simp only [e4] at KL
  have hnm := hP.le
  have big := hP.big
  obtain ⟨rm, hrm⟩ : ∃ r, (most : Int) - n = r := ⟨_, rfl⟩
  simp only [hrm] at KR
  have hNr : (N : Int) ≤ rm := by omega
  have hz4 : ((4 * (most : Int)) == 0) = false := by rw [beq_eq_false_iff_ne]; omega
  obtain ⟨f4, hf4⟩ : ∃ r, 4 * (most : Int) = r := ⟨_, rfl⟩
  simp only [hf4] at KL
  rw [hf4] at hz4
  have xl : x ≠ l := hS.bl
  have HPL := Lib.hid (And.intro hP.pl (And.intro hP.pg (And.intro hP.buf.gl hP.buf.bl)))
  have K0' := Lib.hid K0
  have KR' := Lib.hid KR
  have KL' := Lib.hid KL
  have HP := Lib.hid hP
  have HE := Lib.hid hE
  have HS := Lib.hid hS
  have HL := Lib.hid hL
  have HD := Lib.hid hD
  have K3 := Lib.hid k3
  have K2 := Lib.hid k2
  have hts := Lib.hid (And.intro hS.ts hS.big)
  have plt := blk_lt hP.blk
  have glt := hP.buf.glt
  have xlt := hS.lt
  have llt := hL.lt
  clear K0 KR KL hP hE hS hL hD k2 k3 e4 hrm hf4
  go_enter Tryz.func126, Tryz.ntmps126
  go_wp2_with fail
  refine (K0'.out _).mono ?_
  rintro e w1 ⟨rfl, g1⟩
  have hbox : (w1.alloc (.cells #[.int .i64 2, .int .i64 2, .func (.func 149) #[] #[]] 193)).heap[w1.heap.size]? = some (.cells #[.int .i64 2, .int .i64 2, .func (.func 149) #[] #[]] 193 (0, 0)) := blk_at
  have HB := Lib.hid hbox
  have G := Lib.hid (gb_trans g1 (World.grownBy_alloc w1 (.cells #[.int .i64 2, .int .i64 2, .func (.func 149) #[] #[]] 193) none))
  have hw1 := g1.size
  clear g1 hbox
  go_wp2_with fail
  refine (KR'.out _ (HP.out.grown G.out (by simp) (by simp) (by simp))).mono ?_
  rintro e w2 ⟨rfl, g2⟩
  have HB2 := Lib.hid (old0 g2 HB.out (blk_lt HB.out) (by simp))
  have G2 := Lib.hid (gb_trans G.out g2)
  have q0 : w2.cell? ⟨p, 0, none⟩ = some (.pointer (some ⟨b, 0, none⟩)) := G2.out.cell HP.out.c0 (by simp)
  clear g2
  go_wp2_with fail
  refine (KL'.out _ (HP.out.buf.grown G2.out (by simp) (by simp))).mono ?_
  rintro e w' ⟨rfl, rfl⟩
  have A : Apart p b l g x w1.heap.size := ⟨xp, xb, xg, xl, HPL.out.1, HPL.out.2.1, HPL.out.2.2.1, HPL.out.2.2.2, by omega, by omega, by omega, by omega⟩
  have HA := Lib.hid A
  have I0 : RI W p b l g x w1.heap.size n most s o f t 2 Y D #[.int .i64 2, .int .i64 2, .func (.func 149) #[] #[]] 0 w2 :=
    ⟨⟨S, HP.out.grown G2.out (by simp) (by simp) (by simp), HE.out⟩, by have := HS.out.grown G2.out (by simp); simpa using this, HL.out.grown G2.out (r := none) (by simp), HB2.out, Tn.gb G2.out (by simp)⟩
  have HI0 := Lib.hid I0
  clear A I0 q0
  go_wp2_with fail
  go_loopg [41] (N + 1) (fun q iv wr => ∃ (k : Nat), k ≤ K ∧ q = N + 1 - k ∧ iv = .int .i64 k ∧ RI W p b l g x w1.heap.size n most s o f t 2 Y D #[.int .i64 2, .int .i64 2, .func (.func 149) #[] #[]] k wr)
  case atStart => exact ⟨0, by omega, rfl, rfl, HI0.out⟩
  case round =>
    obtain ⟨k, hk, rfl, rfl, J⟩ := hrel
    have b0 : wr.cell? ⟨w1.heap.size, 0, none⟩ = some (.int .i64 2) := blk_cell J.box 0
    have b1 : wr.cell? ⟨w1.heap.size, 1, none⟩ = some (.int .i64 2) := blk_cell J.box 1
    have b2 : wr.cell? ⟨w1.heap.size, 2, none⟩ = some (.func (.func 149) #[] #[]) := blk_cell J.box 2
    have HJ := Lib.hid J
    clear J HI0
    by_cases hkK : k < K
    · have hkN : (k : Int) < N := by omega
      have hrd := K2.out k hkK
      have hin : o + k * 2 + 2 ≤ s.size := by have h1 := (Sr.rd_of hrd).2.2; have h2 := hts.out.1; have h3 := HJ.out.so.pt; omega
      have hzb := hts.out.2
      have KT := Sr.take_yes x l s (o + k * 2) f t 2 (wk Y k) wr HJ.out.so HJ.out.led (wk_ok ok k) hrd
      have e5 : ((2 : Nat) : Int) = 2 := rfl
      rw [e5] at KT
      obtain ⟨z, hz⟩ : ∃ z, s.extract (o + k * 2) (o + k * 2 + 2) = z := ⟨_, rfl⟩
      rw [hz] at KT
      have KC := fun u => packed_at s z (o + k * 2) u hz hin (by omega)
      obtain ⟨c0, f0⟩ : ∃ c, entAt 0 s (o + k * 2) 0 = c := ⟨_, rfl⟩
      obtain ⟨c1, f1⟩ : ∃ c, entAt 0 s (o + k * 2) 1 = c := ⟨_, rfl⟩
      obtain ⟨c2, f2⟩ : ∃ c, entAt 0 s (o + k * 2) 2 = c := ⟨_, rfl⟩
      obtain ⟨c3, f3⟩ : ∃ c, entAt 0 s (o + k * 2) 3 = c := ⟨_, rfl⟩
      have a0 := entAt_bd 0 s (o + k * 2) 0
      have a1 := entAt_bd 0 s (o + k * 2) 1
      have a2 := entAt_bd 0 s (o + k * 2) 2
      have a3 := entAt_bd 0 s (o + k * 2) 3
      have d0 := HD.out k hkK 0 (by decide)
      have d1 := HD.out k hkK 1 (by decide)
      have d2 := HD.out k hkK 2 (by decide)
      have d3 := HD.out k hkK 3 (by decide)
      rw [f0] at a0 d0
      rw [f1] at a1 d1
      rw [f2] at a2 d2
      rw [f3] at a3 d3
      simp only [f0, f1, f2, f3] at KC
      have KA := Lib.hid (fun u S' (hP : Po p b l g (n + k) most S' u) (hE : EntOf S' (n + k) D) => add_is p b l g (n + k) most S' D c0 c1 c2 c3 u hP (by omega) hE a0 a1 a2 a3 d0 d1 d2 d3)
      have KT' := Lib.hid KT
      have KC' := Lib.hid KC
      clear KT KC hz e5 hrd f0 f1 f2 f3 a0 a1 a2 a3 d0 d1 d2 d3
      go_wp2_with fail
      refine KT'.out.mono ?_
      rintro e w3 ⟨rfl, ⟨so3, led3⟩, t3⟩
      have HSO := Lib.hid so3
      have HLE := Lib.hid led3
      have HT3 := Lib.hid t3
      have b3 := (t3.block w1.heap.size (blk_lt HJ.out.box) (by simp [HA.out.qx, HA.out.ql])).trans HJ.out.box
      have b4 : w3.cell? ⟨w1.heap.size, 2, none⟩ = some (.func (.func 149) #[] #[]) := blk_cell b3 2
      clear so3 led3 t3 b3 b0 b1 b2
      go_wp2_with fail
      refine (KC'.out _).mono ?_
      rintro e w4 ⟨rfl, g4⟩
      have HG4 := Lib.hid g4
      obtain ⟨S', hP', hE'⟩ := HJ.out.po
      have KAh := Lib.hid (KA.out w4 S' ((po_turned hP' HT3.out (by simp [xp.symm, HA.out.pl]) (by simp [xb.symm, HA.out.bl]) (by simp [xg.symm, HA.out.gl])).grown g4 (by simp) (by simp) (by simp)) hE')
      clear g4 hP' hE'
      go_wp2_with fail
      refine KAh.out.mono ?_
      rintro e w5 ⟨rfl, hp5⟩
      have HN := Lib.hid (RI.next HA.out HJ.out HSO.out HLE.out HT3.out HG4.out hp5)
      clear hp5
      go_wp2
      go_roundg (N + 1 - (k + 1))
      case measure => omega
      case rel => exact ⟨k + 1, by omega, rfl, by go_num, HN.out⟩
    · obtain rfl : k = K := by omega
      by_cases hkN : k = N
      · have HJ2 := HJ
        obtain ⟨S', hP', hE'⟩ := HJ.out.po
        have HF := Lib.hid (show ReadPost W p b l g x n most s o f t 2 N k Y D (.returned (.int .i64 0)) wr from ⟨by rw [if_pos hkN], S', hP', hE', by rw [if_pos hkN, ← hkN]; exact HJ.out.led, HJ.out.so, HJ.out.tn⟩)
        have hge : (N : Int) ≤ k := by omega
        clear hP' hE' hkN
        go_wp2
        go_ret
        exact HF.out
      · have hkN' : (k : Int) < N := by omega
        have hout : Sr.rdB (wk Y k) (o + k * 2) t 2 = false := by rcases K3.out with h | h; exact absurd h hkN; exact h
        have KT := Sr.take_no x l s (o + k * 2) f t (wk Y k) 2 wr HJ.out.so HJ.out.led (wk_ok ok k) hout
        have KT' := Lib.hid KT
        clear KT hout
        go_wp2_with fail
        refine KT'.out.mono ?_
        rintro e w3 ⟨rfl, ⟨so3, led3⟩, g3⟩
        obtain ⟨S', hP', hE'⟩ := HJ.out.po
        have HF := Lib.hid (show ReadPost W p b l g x n most s o f t 2 N k Y D (.returned (.int .i64 5)) w3 from ⟨by rw [if_neg hkN], S', hP'.grown g3 (by simpa using HA.out.pl) (by simpa using HA.out.bl) (by simpa using HA.out.gl), hE', by rw [if_neg hkN]; exact led3, so3, HJ.out.tn.trans (Tn.gb g3 (by simp))⟩)
        clear so3 led3 g3 hP' hE'
        go_wp2
        go_ret
        exact HF.out

set_option maxRecDepth 100000 in
set_option maxHeartbeats 2000000 in
theorem read_1 (p b l g x n most N K : Nat) (S : ByteArray) (s : ByteArray) (o f t : Nat) (Y : St) (D : Nat → Nat → Int) (W : World) (hP : Po p b l g n most S W) (hE : EntOf S n D) (hm1 : 1 ≤ most) (hNm : N ≤ most - n)
    (hS : Sr.So x l s o f t W) (hL : Led l Y.ls W) (ok : Y.Ok) (hN : N ≤ 65536) (xp : x ≠ p) (xb : x ≠ b) (xg : x ≠ g)
    (hD : ∀ k, k < K → ∀ j, j < 4 → D (n + k) j = entAt 1 s (o + k * 3) j) (k1 : K ≤ N) (k2 : ∀ k, k < K → Sr.rdB (wk Y k) (o + k * 3) t 3 = true) (k3 : K = N ∨ Sr.rdB (wk Y K) (o + K * 3) t 3 = false) :
    Calls Tryz.prog 126 #[.pointer (some ⟨p, 0, none⟩), .pointer (some ⟨x, 0, none⟩), .int .i64 N, .int .i64 3] W (ReadPost W p b l g x n most s o f t 3 N K Y D) := by
  have K0 : ∀ u, Calls Tryz.prog 127 #[.int .i64 3] u fun e w' => e = .returned (.tuple #[.agg #[.int .i64 3, .int .i64 3, .func (.func 150) #[] #[]], .bool true]) ∧ u.grownBy w' none := fun u => find_yes 1 3 u (by decide) rfl
  have KR := fun u (hu : Po p b l g n most S u) => room_calls p b l g n most S u hu
  have KL := fun u (hu : Bu.BOpen b l g S u) => Bu.len_calls b l g true S u (.inl ⟨rfl, hu⟩)
  have e4 : ((S.size : Nat) : Int) = 4 * (most : Int) := by have := hP.size; omega
  simp only [e4] at KL
  have hnm := hP.le
  have big := hP.big
  obtain ⟨rm, hrm⟩ : ∃ r, (most : Int) - n = r := ⟨_, rfl⟩
  simp only [hrm] at KR
  have hNr : (N : Int) ≤ rm := by omega
  have hz4 : ((4 * (most : Int)) == 0) = false := by rw [beq_eq_false_iff_ne]; omega
  obtain ⟨f4, hf4⟩ : ∃ r, 4 * (most : Int) = r := ⟨_, rfl⟩
  simp only [hf4] at KL
  rw [hf4] at hz4
  have xl : x ≠ l := hS.bl
  have HPL := Lib.hid (And.intro hP.pl (And.intro hP.pg (And.intro hP.buf.gl hP.buf.bl)))
  have K0' := Lib.hid K0
  have KR' := Lib.hid KR
  have KL' := Lib.hid KL
  have HP := Lib.hid hP
  have HE := Lib.hid hE
  have HS := Lib.hid hS
  have HL := Lib.hid hL
  have HD := Lib.hid hD
  have K3 := Lib.hid k3
  have K2 := Lib.hid k2
  have hts := Lib.hid (And.intro hS.ts hS.big)
  have plt := blk_lt hP.blk
  have glt := hP.buf.glt
  have xlt := hS.lt
  have llt := hL.lt
  clear K0 KR KL hP hE hS hL hD k2 k3 e4 hrm hf4
  go_enter Tryz.func126, Tryz.ntmps126
  go_wp2_with fail
  refine (K0'.out _).mono ?_
  rintro e w1 ⟨rfl, g1⟩
  have hbox : (w1.alloc (.cells #[.int .i64 3, .int .i64 3, .func (.func 150) #[] #[]] 193)).heap[w1.heap.size]? = some (.cells #[.int .i64 3, .int .i64 3, .func (.func 150) #[] #[]] 193 (0, 0)) := blk_at
  have HB := Lib.hid hbox
  have G := Lib.hid (gb_trans g1 (World.grownBy_alloc w1 (.cells #[.int .i64 3, .int .i64 3, .func (.func 150) #[] #[]] 193) none))
  have hw1 := g1.size
  clear g1 hbox
  go_wp2_with fail
  refine (KR'.out _ (HP.out.grown G.out (by simp) (by simp) (by simp))).mono ?_
  rintro e w2 ⟨rfl, g2⟩
  have HB2 := Lib.hid (old0 g2 HB.out (blk_lt HB.out) (by simp))
  have G2 := Lib.hid (gb_trans G.out g2)
  have q0 : w2.cell? ⟨p, 0, none⟩ = some (.pointer (some ⟨b, 0, none⟩)) := G2.out.cell HP.out.c0 (by simp)
  clear g2
  go_wp2_with fail
  refine (KL'.out _ (HP.out.buf.grown G2.out (by simp) (by simp))).mono ?_
  rintro e w' ⟨rfl, rfl⟩
  have A : Apart p b l g x w1.heap.size := ⟨xp, xb, xg, xl, HPL.out.1, HPL.out.2.1, HPL.out.2.2.1, HPL.out.2.2.2, by omega, by omega, by omega, by omega⟩
  have HA := Lib.hid A
  have I0 : RI W p b l g x w1.heap.size n most s o f t 3 Y D #[.int .i64 3, .int .i64 3, .func (.func 150) #[] #[]] 0 w2 :=
    ⟨⟨S, HP.out.grown G2.out (by simp) (by simp) (by simp), HE.out⟩, by have := HS.out.grown G2.out (by simp); simpa using this, HL.out.grown G2.out (r := none) (by simp), HB2.out, Tn.gb G2.out (by simp)⟩
  have HI0 := Lib.hid I0
  clear A I0 q0
  go_wp2_with fail
  go_loopg [41] (N + 1) (fun q iv wr => ∃ (k : Nat), k ≤ K ∧ q = N + 1 - k ∧ iv = .int .i64 k ∧ RI W p b l g x w1.heap.size n most s o f t 3 Y D #[.int .i64 3, .int .i64 3, .func (.func 150) #[] #[]] k wr)
  case atStart => exact ⟨0, by omega, rfl, rfl, HI0.out⟩
  case round =>
    obtain ⟨k, hk, rfl, rfl, J⟩ := hrel
    have b0 : wr.cell? ⟨w1.heap.size, 0, none⟩ = some (.int .i64 3) := blk_cell J.box 0
    have b1 : wr.cell? ⟨w1.heap.size, 1, none⟩ = some (.int .i64 3) := blk_cell J.box 1
    have b2 : wr.cell? ⟨w1.heap.size, 2, none⟩ = some (.func (.func 150) #[] #[]) := blk_cell J.box 2
    have HJ := Lib.hid J
    clear J HI0
    by_cases hkK : k < K
    · have hkN : (k : Int) < N := by omega
      have hrd := K2.out k hkK
      have hin : o + k * 3 + 3 ≤ s.size := by have h1 := (Sr.rd_of hrd).2.2; have h2 := hts.out.1; have h3 := HJ.out.so.pt; omega
      have hzb := hts.out.2
      have KT := Sr.take_yes x l s (o + k * 3) f t 3 (wk Y k) wr HJ.out.so HJ.out.led (wk_ok ok k) hrd
      have e5 : ((3 : Nat) : Int) = 3 := rfl
      rw [e5] at KT
      obtain ⟨z, hz⟩ : ∃ z, s.extract (o + k * 3) (o + k * 3 + 3) = z := ⟨_, rfl⟩
      rw [hz] at KT
      have KC := fun u => opaque_at 1 (.inl rfl) s z (o + k * 3) 3 u (by decide) hz hin (by omega)
      obtain ⟨c0, f0⟩ : ∃ c, entAt 1 s (o + k * 3) 0 = c := ⟨_, rfl⟩
      obtain ⟨c1, f1⟩ : ∃ c, entAt 1 s (o + k * 3) 1 = c := ⟨_, rfl⟩
      obtain ⟨c2, f2⟩ : ∃ c, entAt 1 s (o + k * 3) 2 = c := ⟨_, rfl⟩
      obtain ⟨c3, f3⟩ : ∃ c, entAt 1 s (o + k * 3) 3 = c := ⟨_, rfl⟩
      have a0 := entAt_bd 1 s (o + k * 3) 0
      have a1 := entAt_bd 1 s (o + k * 3) 1
      have a2 := entAt_bd 1 s (o + k * 3) 2
      have a3 := entAt_bd 1 s (o + k * 3) 3
      have d0 := HD.out k hkK 0 (by decide)
      have d1 := HD.out k hkK 1 (by decide)
      have d2 := HD.out k hkK 2 (by decide)
      have d3 := HD.out k hkK 3 (by decide)
      rw [f0] at a0 d0
      rw [f1] at a1 d1
      rw [f2] at a2 d2
      rw [f3] at a3 d3
      simp only [f0, f1, f2, f3] at KC
      have KA := Lib.hid (fun u S' (hP : Po p b l g (n + k) most S' u) (hE : EntOf S' (n + k) D) => add_is p b l g (n + k) most S' D c0 c1 c2 c3 u hP (by omega) hE a0 a1 a2 a3 d0 d1 d2 d3)
      have KT' := Lib.hid KT
      have KC' := Lib.hid KC
      clear KT KC hz e5 hrd f0 f1 f2 f3 a0 a1 a2 a3 d0 d1 d2 d3
      go_wp2_with fail
      refine KT'.out.mono ?_
      rintro e w3 ⟨rfl, ⟨so3, led3⟩, t3⟩
      have HSO := Lib.hid so3
      have HLE := Lib.hid led3
      have HT3 := Lib.hid t3
      have b3 := (t3.block w1.heap.size (blk_lt HJ.out.box) (by simp [HA.out.qx, HA.out.ql])).trans HJ.out.box
      have b4 : w3.cell? ⟨w1.heap.size, 2, none⟩ = some (.func (.func 150) #[] #[]) := blk_cell b3 2
      clear so3 led3 t3 b3 b0 b1 b2
      go_wp2_with fail
      refine (KC'.out _).mono ?_
      rintro e w4 ⟨rfl, g4⟩
      have HG4 := Lib.hid g4
      obtain ⟨S', hP', hE'⟩ := HJ.out.po
      have KAh := Lib.hid (KA.out w4 S' ((po_turned hP' HT3.out (by simp [xp.symm, HA.out.pl]) (by simp [xb.symm, HA.out.bl]) (by simp [xg.symm, HA.out.gl])).grown g4 (by simp) (by simp) (by simp)) hE')
      clear g4 hP' hE'
      go_wp2_with fail
      refine KAh.out.mono ?_
      rintro e w5 ⟨rfl, hp5⟩
      have HN := Lib.hid (RI.next HA.out HJ.out HSO.out HLE.out HT3.out HG4.out hp5)
      clear hp5
      go_wp2
      go_roundg (N + 1 - (k + 1))
      case measure => omega
      case rel => exact ⟨k + 1, by omega, rfl, by go_num, HN.out⟩
    · obtain rfl : k = K := by omega
      by_cases hkN : k = N
      · have HJ2 := HJ
        obtain ⟨S', hP', hE'⟩ := HJ.out.po
        have HF := Lib.hid (show ReadPost W p b l g x n most s o f t 3 N k Y D (.returned (.int .i64 0)) wr from ⟨by rw [if_pos hkN], S', hP', hE', by rw [if_pos hkN, ← hkN]; exact HJ.out.led, HJ.out.so, HJ.out.tn⟩)
        have hge : (N : Int) ≤ k := by omega
        clear hP' hE' hkN
        go_wp2
        go_ret
        exact HF.out
      · have hkN' : (k : Int) < N := by omega
        have hout : Sr.rdB (wk Y k) (o + k * 3) t 3 = false := by rcases K3.out with h | h; exact absurd h hkN; exact h
        have KT := Sr.take_no x l s (o + k * 3) f t (wk Y k) 3 wr HJ.out.so HJ.out.led (wk_ok ok k) hout
        have KT' := Lib.hid KT
        clear KT hout
        go_wp2_with fail
        refine KT'.out.mono ?_
        rintro e w3 ⟨rfl, ⟨so3, led3⟩, g3⟩
        obtain ⟨S', hP', hE'⟩ := HJ.out.po
        have HF := Lib.hid (show ReadPost W p b l g x n most s o f t 3 N k Y D (.returned (.int .i64 5)) w3 from ⟨by rw [if_neg hkN], S', hP'.grown g3 (by simpa using HA.out.pl) (by simpa using HA.out.bl) (by simpa using HA.out.gl), hE', by rw [if_neg hkN]; exact led3, so3, HJ.out.tn.trans (Tn.gb g3 (by simp))⟩)
        clear so3 led3 g3 hP' hE'
        go_wp2
        go_ret
        exact HF.out

set_option maxRecDepth 100000 in
set_option maxHeartbeats 2000000 in
theorem read_3 (p b l g x n most N K : Nat) (S : ByteArray) (s : ByteArray) (o f t : Nat) (Y : St) (D : Nat → Nat → Int) (W : World) (hP : Po p b l g n most S W) (hE : EntOf S n D) (hm1 : 1 ≤ most) (hNm : N ≤ most - n)
    (hS : Sr.So x l s o f t W) (hL : Led l Y.ls W) (ok : Y.Ok) (hN : N ≤ 65536) (xp : x ≠ p) (xb : x ≠ b) (xg : x ≠ g)
    (hD : ∀ k, k < K → ∀ j, j < 4 → D (n + k) j = entAt 3 s (o + k * 4) j) (k1 : K ≤ N) (k2 : ∀ k, k < K → Sr.rdB (wk Y k) (o + k * 4) t 4 = true) (k3 : K = N ∨ Sr.rdB (wk Y K) (o + K * 4) t 4 = false) :
    Calls Tryz.prog 126 #[.pointer (some ⟨p, 0, none⟩), .pointer (some ⟨x, 0, none⟩), .int .i64 N, .int .i64 5] W (ReadPost W p b l g x n most s o f t 4 N K Y D) := by
  have K0 : ∀ u, Calls Tryz.prog 127 #[.int .i64 5] u fun e w' => e = .returned (.tuple #[.agg #[.int .i64 5, .int .i64 4, .func (.func 151) #[] #[]], .bool true]) ∧ u.grownBy w' none := fun u => find_yes 3 5 u (by decide) rfl
  have KR := fun u (hu : Po p b l g n most S u) => room_calls p b l g n most S u hu
  have KL := fun u (hu : Bu.BOpen b l g S u) => Bu.len_calls b l g true S u (.inl ⟨rfl, hu⟩)
  have e4 : ((S.size : Nat) : Int) = 4 * (most : Int) := by have := hP.size; omega
  simp only [e4] at KL
  have hnm := hP.le
  have big := hP.big
  obtain ⟨rm, hrm⟩ : ∃ r, (most : Int) - n = r := ⟨_, rfl⟩
  simp only [hrm] at KR
  have hNr : (N : Int) ≤ rm := by omega
  have hz4 : ((4 * (most : Int)) == 0) = false := by rw [beq_eq_false_iff_ne]; omega
  obtain ⟨f4, hf4⟩ : ∃ r, 4 * (most : Int) = r := ⟨_, rfl⟩
  simp only [hf4] at KL
  rw [hf4] at hz4
  have xl : x ≠ l := hS.bl
  have HPL := Lib.hid (And.intro hP.pl (And.intro hP.pg (And.intro hP.buf.gl hP.buf.bl)))
  have K0' := Lib.hid K0
  have KR' := Lib.hid KR
  have KL' := Lib.hid KL
  have HP := Lib.hid hP
  have HE := Lib.hid hE
  have HS := Lib.hid hS
  have HL := Lib.hid hL
  have HD := Lib.hid hD
  have K3 := Lib.hid k3
  have K2 := Lib.hid k2
  have hts := Lib.hid (And.intro hS.ts hS.big)
  have plt := blk_lt hP.blk
  have glt := hP.buf.glt
  have xlt := hS.lt
  have llt := hL.lt
  clear K0 KR KL hP hE hS hL hD k2 k3 e4 hrm hf4
  go_enter Tryz.func126, Tryz.ntmps126
  go_wp2_with fail
  refine (K0'.out _).mono ?_
  rintro e w1 ⟨rfl, g1⟩
  have hbox : (w1.alloc (.cells #[.int .i64 5, .int .i64 4, .func (.func 151) #[] #[]] 193)).heap[w1.heap.size]? = some (.cells #[.int .i64 5, .int .i64 4, .func (.func 151) #[] #[]] 193 (0, 0)) := blk_at
  have HB := Lib.hid hbox
  have G := Lib.hid (gb_trans g1 (World.grownBy_alloc w1 (.cells #[.int .i64 5, .int .i64 4, .func (.func 151) #[] #[]] 193) none))
  have hw1 := g1.size
  clear g1 hbox
  go_wp2_with fail
  refine (KR'.out _ (HP.out.grown G.out (by simp) (by simp) (by simp))).mono ?_
  rintro e w2 ⟨rfl, g2⟩
  have HB2 := Lib.hid (old0 g2 HB.out (blk_lt HB.out) (by simp))
  have G2 := Lib.hid (gb_trans G.out g2)
  have q0 : w2.cell? ⟨p, 0, none⟩ = some (.pointer (some ⟨b, 0, none⟩)) := G2.out.cell HP.out.c0 (by simp)
  clear g2
  go_wp2_with fail
  refine (KL'.out _ (HP.out.buf.grown G2.out (by simp) (by simp))).mono ?_
  rintro e w' ⟨rfl, rfl⟩
  have A : Apart p b l g x w1.heap.size := ⟨xp, xb, xg, xl, HPL.out.1, HPL.out.2.1, HPL.out.2.2.1, HPL.out.2.2.2, by omega, by omega, by omega, by omega⟩
  have HA := Lib.hid A
  have I0 : RI W p b l g x w1.heap.size n most s o f t 4 Y D #[.int .i64 5, .int .i64 4, .func (.func 151) #[] #[]] 0 w2 :=
    ⟨⟨S, HP.out.grown G2.out (by simp) (by simp) (by simp), HE.out⟩, by have := HS.out.grown G2.out (by simp); simpa using this, HL.out.grown G2.out (r := none) (by simp), HB2.out, Tn.gb G2.out (by simp)⟩
  have HI0 := Lib.hid I0
  clear A I0 q0
  go_wp2_with fail
  go_loopg [41] (N + 1) (fun q iv wr => ∃ (k : Nat), k ≤ K ∧ q = N + 1 - k ∧ iv = .int .i64 k ∧ RI W p b l g x w1.heap.size n most s o f t 4 Y D #[.int .i64 5, .int .i64 4, .func (.func 151) #[] #[]] k wr)
  case atStart => exact ⟨0, by omega, rfl, rfl, HI0.out⟩
  case round =>
    obtain ⟨k, hk, rfl, rfl, J⟩ := hrel
    have b0 : wr.cell? ⟨w1.heap.size, 0, none⟩ = some (.int .i64 5) := blk_cell J.box 0
    have b1 : wr.cell? ⟨w1.heap.size, 1, none⟩ = some (.int .i64 4) := blk_cell J.box 1
    have b2 : wr.cell? ⟨w1.heap.size, 2, none⟩ = some (.func (.func 151) #[] #[]) := blk_cell J.box 2
    have HJ := Lib.hid J
    clear J HI0
    by_cases hkK : k < K
    · have hkN : (k : Int) < N := by omega
      have hrd := K2.out k hkK
      have hin : o + k * 4 + 4 ≤ s.size := by have h1 := (Sr.rd_of hrd).2.2; have h2 := hts.out.1; have h3 := HJ.out.so.pt; omega
      have hzb := hts.out.2
      have KT := Sr.take_yes x l s (o + k * 4) f t 4 (wk Y k) wr HJ.out.so HJ.out.led (wk_ok ok k) hrd
      have e5 : ((4 : Nat) : Int) = 4 := rfl
      rw [e5] at KT
      obtain ⟨z, hz⟩ : ∃ z, s.extract (o + k * 4) (o + k * 4 + 4) = z := ⟨_, rfl⟩
      rw [hz] at KT
      have KC := fun u => whole_at s z (o + k * 4) u hz hin (by omega)
      obtain ⟨c0, f0⟩ : ∃ c, entAt 3 s (o + k * 4) 0 = c := ⟨_, rfl⟩
      obtain ⟨c1, f1⟩ : ∃ c, entAt 3 s (o + k * 4) 1 = c := ⟨_, rfl⟩
      obtain ⟨c2, f2⟩ : ∃ c, entAt 3 s (o + k * 4) 2 = c := ⟨_, rfl⟩
      obtain ⟨c3, f3⟩ : ∃ c, entAt 3 s (o + k * 4) 3 = c := ⟨_, rfl⟩
      have a0 := entAt_bd 3 s (o + k * 4) 0
      have a1 := entAt_bd 3 s (o + k * 4) 1
      have a2 := entAt_bd 3 s (o + k * 4) 2
      have a3 := entAt_bd 3 s (o + k * 4) 3
      have d0 := HD.out k hkK 0 (by decide)
      have d1 := HD.out k hkK 1 (by decide)
      have d2 := HD.out k hkK 2 (by decide)
      have d3 := HD.out k hkK 3 (by decide)
      rw [f0] at a0 d0
      rw [f1] at a1 d1
      rw [f2] at a2 d2
      rw [f3] at a3 d3
      simp only [f0, f1, f2, f3] at KC
      have KA := Lib.hid (fun u S' (hP : Po p b l g (n + k) most S' u) (hE : EntOf S' (n + k) D) => add_is p b l g (n + k) most S' D c0 c1 c2 c3 u hP (by omega) hE a0 a1 a2 a3 d0 d1 d2 d3)
      have KT' := Lib.hid KT
      have KC' := Lib.hid KC
      clear KT KC hz e5 hrd f0 f1 f2 f3 a0 a1 a2 a3 d0 d1 d2 d3
      go_wp2_with fail
      refine KT'.out.mono ?_
      rintro e w3 ⟨rfl, ⟨so3, led3⟩, t3⟩
      have HSO := Lib.hid so3
      have HLE := Lib.hid led3
      have HT3 := Lib.hid t3
      have b3 := (t3.block w1.heap.size (blk_lt HJ.out.box) (by simp [HA.out.qx, HA.out.ql])).trans HJ.out.box
      have b4 : w3.cell? ⟨w1.heap.size, 2, none⟩ = some (.func (.func 151) #[] #[]) := blk_cell b3 2
      clear so3 led3 t3 b3 b0 b1 b2
      go_wp2_with fail
      refine (KC'.out _).mono ?_
      rintro e w4 ⟨rfl, g4⟩
      have HG4 := Lib.hid g4
      obtain ⟨S', hP', hE'⟩ := HJ.out.po
      have KAh := Lib.hid (KA.out w4 S' ((po_turned hP' HT3.out (by simp [xp.symm, HA.out.pl]) (by simp [xb.symm, HA.out.bl]) (by simp [xg.symm, HA.out.gl])).grown g4 (by simp) (by simp) (by simp)) hE')
      clear g4 hP' hE'
      go_wp2_with fail
      refine KAh.out.mono ?_
      rintro e w5 ⟨rfl, hp5⟩
      have HN := Lib.hid (RI.next HA.out HJ.out HSO.out HLE.out HT3.out HG4.out hp5)
      clear hp5
      go_wp2
      go_roundg (N + 1 - (k + 1))
      case measure => omega
      case rel => exact ⟨k + 1, by omega, rfl, by go_num, HN.out⟩
    · obtain rfl : k = K := by omega
      by_cases hkN : k = N
      · have HJ2 := HJ
        obtain ⟨S', hP', hE'⟩ := HJ.out.po
        have HF := Lib.hid (show ReadPost W p b l g x n most s o f t 4 N k Y D (.returned (.int .i64 0)) wr from ⟨by rw [if_pos hkN], S', hP', hE', by rw [if_pos hkN, ← hkN]; exact HJ.out.led, HJ.out.so, HJ.out.tn⟩)
        have hge : (N : Int) ≤ k := by omega
        clear hP' hE' hkN
        go_wp2
        go_ret
        exact HF.out
      · have hkN' : (k : Int) < N := by omega
        have hout : Sr.rdB (wk Y k) (o + k * 4) t 4 = false := by rcases K3.out with h | h; exact absurd h hkN; exact h
        have KT := Sr.take_no x l s (o + k * 4) f t (wk Y k) 4 wr HJ.out.so HJ.out.led (wk_ok ok k) hout
        have KT' := Lib.hid KT
        clear KT hout
        go_wp2_with fail
        refine KT'.out.mono ?_
        rintro e w3 ⟨rfl, ⟨so3, led3⟩, g3⟩
        obtain ⟨S', hP', hE'⟩ := HJ.out.po
        have HF := Lib.hid (show ReadPost W p b l g x n most s o f t 4 N k Y D (.returned (.int .i64 5)) w3 from ⟨by rw [if_neg hkN], S', hP'.grown g3 (by simpa using HA.out.pl) (by simpa using HA.out.bl) (by simpa using HA.out.gl), hE', by rw [if_neg hkN]; exact led3, so3, HJ.out.tn.trans (Tn.gb g3 (by simp))⟩)
        clear so3 led3 g3 hP' hE'
        go_wp2
        go_ret
        exact HF.out

end Go.Proofs.YtnieeckdldpebaaGreat.Pa.Rg
