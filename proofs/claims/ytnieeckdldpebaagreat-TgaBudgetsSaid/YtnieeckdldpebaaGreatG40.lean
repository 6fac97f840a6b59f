/- Texts of one kind, one behind the other: Tr5, Tr6. -/
import Derived.Test.YtnieeckdldpebaaGreatG39
/- Layer 18: packets are read, by any ledger (written by wip/gen/tr5.py). -/
namespace Go.Proofs.YtnieeckdldpebaaGreat.Tr
open Go.ChangeShapes Go.WideShapes Go.ChangeAt Go.RowKit
open Go.Proofs.YtnieeckdldpebaaGreat.Sc Go.Proofs.YtnieeckdldpebaaGreat.Le Go.Proofs.YtnieeckdldpebaaGreat.Pa Go.Proofs.YtnieeckdldpebaaGreat.Tk Go.Proofs.YtnieeckdldpebaaGreat.Tg Go.Proofs.YtnieeckdldpebaaGreat.Tp Go.Proofs.YtnieeckdldpebaaGreat.Ra
set_option linter.unusedVariables false

theorem low7 : ∀ p : Fin 256, bits .andNot .i64 ((p.val : Nat) : Int) 128 = ((p.val % 128 : Nat) : Int) := by decide +kernel
theorem top1 : ∀ p : Fin 256, bits .and .i64 ((p.val : Nat) : Int) 128 = (if 128 ≤ p.val then 128 else 0) := by decide +kernel

theorem packet_calls (by0 : Nat) (hh : by0 < 256) (W : World) :
    Calls Tryz.prog 129 #[.int .i64 by0] W fun e w' => e = .returned (.agg #[.int .i64 (flw by0), .int .i64 (tms by0)]) ∧ W.grownBy w' none := by
  have t1 := top1 ⟨by0, hh⟩
  replace t1 : bits .and .i64 (by0 : Int) 128 = (if 128 ≤ by0 then 128 else 0) := t1
  have l7 := low7 ⟨by0, hh⟩
  replace l7 : bits .andNot .i64 (by0 : Int) 128 = ((by0 % 128 : Nat) : Int) := l7
  obtain ⟨q, hq⟩ : ∃ q, by0 % 128 = q := ⟨_, rfl⟩
  rw [hq] at l7
  obtain ⟨q1, hq1⟩ : ∃ q1, q + 1 = q1 := ⟨_, rfl⟩
  have hw : IntKind.i64.wrap ((q : Int) + 1) = (q1 : Int) := by rw [IntWalk.i64_in _ (by omega)]; omega
  by_cases h1 : 128 ≤ by0
  · have f1 : flw by0 = 1 := if_pos h1
    have f2 : tms by0 = q1 := by unfold tms; rw [if_pos h1, hq, hq1]
    rw [if_pos h1] at t1
    rw [f1, f2]
    clear f1 f2 h1 hq hq1
    go_enter Tryz.func129, Tryz.ntmps129
    go_wp2
    refine bodyPost_ret (v := .agg #[.int .i64 1, .int .i64 (q1 : Int)]) (by simp only [results, Tryz.results129]; go_simp) rfl ⟨rfl, World.grownBy_alloc _ _ none⟩
  · have f1 : flw by0 = q1 := by unfold flw; rw [if_neg h1, hq, hq1]
    have f2 : tms by0 = 1 := if_neg h1
    rw [if_neg h1] at t1
    rw [f1, f2]
    clear f1 f2 h1 hq hq1
    go_enter Tryz.func129, Tryz.ntmps129
    go_wp2
    refine bodyPost_ret (v := .agg #[.int .i64 (q1 : Int), .int .i64 1]) (by simp only [results, Tryz.results129]; go_simp) rfl ⟨rfl, World.grownBy_alloc _ _ none⟩

theorem count_calls (a b : Nat) (ha : a ≤ 128) (hb : b ≤ 128) (W : World) :
    Calls Tryz.prog 130 #[.agg #[.int .i64 a, .int .i64 b]] W fun e w' => e = .returned (.int .i64 ((a * b : Nat) : Int)) ∧ W.grownBy w' none := by
  obtain ⟨m, hm⟩ : ∃ m, a * b = m := ⟨_, rfl⟩
  have hm1 : m ≤ 128 * 128 := by rw [← hm]; exact Nat.mul_le_mul ha hb
  have hw : IntKind.i64.wrap ((a : Int) * (b : Int)) = (m : Int) := by rw [← Int.natCast_mul, hm]; exact IntWalk.i64_in _ (by omega)
  rw [hm]
  clear hm
  go_enter Tryz.func130, Tryz.ntmps130
  go_wp2
  go_ret
  exact ⟨rfl, World.grownBy_alloc _ _ none⟩


theorem BS.grow {W w : World} {M pb c l r cb g : Nat} (h : BS W M pb c l r cb g) (t : W.heap.size ≤ w.heap.size) : BS w M pb c l r cb g :=
  ⟨Nat.le_trans h.mw t, h.pc, h.pl, h.pr, h.pcb, h.pg, h.rc, h.cbc, h.cbl, h.gc, h.gl, h.rl, h.rg, h.cg, Nat.lt_of_lt_of_le h.pw t, Nat.lt_of_lt_of_le h.cw t, Nat.lt_of_lt_of_le h.lw t, Nat.lt_of_lt_of_le h.rw t, Nat.lt_of_lt_of_le h.bw t, Nat.lt_of_lt_of_le h.gw t⟩
theorem RS.re {W : World} {pb c l r cb g : Nat} {nm x2 fs cnt en gw gh d a : Nat} {mp lf tp : Bool} {pv : Value} {P : World → Prop} {C : Nat → Nat → Int} {s : ByteArray} {x : St} {o q n N : Nat} {L : List Nat} {w : World} (h : RS W pb c l r cb g nm x2 fs cnt en gw gh d a mp lf tp pv P C s x o q n N L w) : RS w pb c l r cb g nm x2 fs cnt en gw gh d a mp lf tp pv P C s x o q n N L w := ⟨h.rd, h.ro, h.px, h.pp, Tn.refl _ _⟩
theorem RS.with {W : World} {pb c l r cb g : Nat} {nm x2 fs cnt en gw gh d a : Nat} {mp lf tp : Bool} {pv : Value} {P : World → Prop} {C : Nat → Nat → Int} {s : ByteArray} {x : St} {o q n N : Nat} {L : List Nat} {w u : World} (h : RS w pb c l r cb g nm x2 fs cnt en gw gh d a mp lf tp pv P C s x o q n N L u) (t : Tn W w [g, pb, c, l]) : RS W pb c l r cb g nm x2 fs cnt en gw gh d a mp lf tp pv P C s x o q n N L u := ⟨h.rd, h.ro, h.px, h.pp, t.trans h.tn⟩
/-- New memory is written. -/
theorem RS.own {W : World} {M pb c l r cb g : Nat} {nm x2 fs cnt en gw gh d a : Nat} {mp lf tp : Bool} {pv : Value} {P : World → Prop} {C : Nat → Nat → Int} {s : ByteArray} {x : St} {o q n N : Nat} {L : List Nat} {w u : World} {S : List Nat} (h : RS W pb c l r cb g nm x2 fs cnt en gw gh d a mp lf tp pv P C s x o q n N L w) (B : BS W M pb c l r cb g) (hP : ∀ u u', P u → (∀ k, k < M → k ∉ [g, pb, c, l] → u'.heap[k]? = u.heap[k]?) → P u') (t : Tn w u S) (hS : ∀ i, i ∈ S → W.heap.size ≤ i) : RS W pb c l r cb g nm x2 fs cnt en gw gh d a mp lf tp pv P C s x o q n N L u := by
  have n : ∀ i, i < W.heap.size → i ∉ S := fun i hi h => by have := hS i h; omega
  exact ⟨h.rd.own t (n _ B.cw) (n _ B.lw), h.ro.turned (tB t) (n _ B.rw) (n _ B.bw) (n _ B.gw), (t.block _ (blk_lt h.px) (n _ B.pw)).trans h.px, hP _ _ h.pp (fun i hi _ => t.block i (Nat.lt_of_lt_of_le hi (Nat.le_trans B.mw h.tn.size)) (n _ (Nat.lt_of_lt_of_le hi B.mw))), h.tn.over t (fun i hi => .inl (hS i hi))⟩
/-- The source's place and the steps alone have turned. -/
theorem RS.src {W : World} {M pb c l r cb g : Nat} {nm x2 fs cnt en gw gh d a : Nat} {mp lf tp : Bool} {pv : Value} {P : World → Prop} {C : Nat → Nat → Int} {s : ByteArray} {x : St} {o q n q' n' N : Nat} {L : List Nat} {w u : World} (h : RS W pb c l r cb g nm x2 fs cnt en gw gh d a mp lf tp pv P C s x o q n N L w) (B : BS W M pb c l r cb g) (hP : ∀ u u', P u → (∀ k, k < M → k ∉ [g, pb, c, l] → u'.heap[k]? = u.heap[k]?) → P u') (t : Tn w u [c, l]) (R : Rd c l s q' (stp x n') u) : RS W pb c l r cb g nm x2 fs cnt en gw gh d a mp lf tp pv P C s x o q' n' N L u :=
  ⟨R, h.ro.turned (tB t) (by simp; exact ⟨B.rc, B.rl⟩) (by simp; exact ⟨B.cbc, B.cbl⟩) (by simp; exact ⟨B.gc, B.gl⟩), (t.block _ (blk_lt h.px) (by simp; exact ⟨B.pc, B.pl⟩)).trans h.px, hP _ _ h.pp (fun i hi hn => t.block i (Nat.lt_of_lt_of_le hi (Nat.le_trans B.mw h.tn.size)) (by simp at hn ⊢; exact ⟨hn.2.2.1, hn.2.2.2⟩)), h.tn.trans (t.mono (by intro i hi; simp at hi ⊢; omega))⟩
/-- What is told of the rest, where a reading ended badly. -/
theorem RS.bad {W : World} {M pb c l r cb g : Nat} {nm x2 fs cnt en gw gh d a : Nat} {mp lf tp : Bool} {pv : Value} {P : World → Prop} {C : Nat → Nat → Int} {s : ByteArray} {x : St} {o q n N : Nat} {L : List Nat} {w u v : World} {S : List Nat} (h : RS W pb c l r cb g nm x2 fs cnt en gw gh d a mp lf tp pv P C s x o q n N L w) (B : BS W M pb c l r cb g) (hP : ∀ u u', P u → (∀ k, k < M → k ∉ [g, pb, c, l] → u'.heap[k]? = u.heap[k]?) → P u') (t : Tn w u [c, l]) (t2 : Tn u v S) (hS : ∀ i, i ∈ S → W.heap.size ≤ i) :
    Tn W v [g, pb, c, l] ∧ P v ∧ Ro r l cb g gw gh (rsl (plI gw gh lf tp) (fB C) L N) v := by
  have n : ∀ i, i < W.heap.size → i ∉ S := fun i hi h => by have := hS i h; omega
  have tm : Tn W u [g, pb, c, l] := h.tn.trans (t.mono (by intro i hi; simp at hi ⊢; omega))
  have pu : P u := hP _ _ h.pp (fun i hi hn => t.block i (Nat.lt_of_lt_of_le hi (Nat.le_trans B.mw h.tn.size)) (by simp at hn ⊢; exact ⟨hn.2.2.1, hn.2.2.2⟩))
  exact ⟨tm.over t2 (fun i hi => .inl (hS i hi)), hP _ _ pu (fun i hi _ => t2.block i (Nat.lt_of_lt_of_le hi (Nat.le_trans B.mw tm.size)) (n _ (Nat.lt_of_lt_of_le hi B.mw))), (h.ro.turned (tB t) (by simp; exact ⟨B.rc, B.rl⟩) (by simp; exact ⟨B.cbc, B.cbl⟩) (by simp; exact ⟨B.gc, B.gl⟩)).turned (tB t2) (n _ B.rw) (n _ B.bw) (n _ B.gw)⟩

theorem pack_n1 {KD PL : Nat → Nat} {sz : Nat} {s : ByteArray} {N : Nat} {z : PZ} (h : z.f = 0) (h1 : z.l.length < N) : z.n + 1 ≤ (pack KD PL sz s N z).n := by
  by_cases h2 : s.size ≤ z.a
  · rw [pack_end h h1 h2]
    exact Nat.le_refl _
  · by_cases h3 : N - z.l.length < bn s z.a % 128 + 1
    · rw [pack_many h h1 (by omega) h3]
      exact Nat.le_refl _
    · rw [pack_go h h1 (by omega) h3]
      exact pixs_n (KD := KD) (PL := PL) (sz := sz) (tms (bn s z.a)) ⟨0, 0, z.a + 1, z.l, z.n + 1⟩ (Nat.zero_le (flw (bn s z.a)))

theorem flw_le (b : Nat) : flw b ≤ 128 := by
  unfold flw
  split <;> omega
theorem tms_le (b : Nat) : tms b ≤ 128 := by
  unfold tms
  split <;> omega

/-- Why a reading failed. -/
theorem fault_spent5 (c l : Nat) (s : ByteArray) (p : Nat) (x : St) (k : Int) (w : World) (h : Rd c l s p (spent x) w) :
    Calls Tryz.prog 51 #[.pointer (some ⟨c, 0, none⟩), .int .i64 k] w
      fun e w' => e = .returned (.agg #[.int .i64 4, .int .i64 k, .int .i64 p]) ∧ Rd c l s p (spent x) w' ∧ w.grownBy w' none :=
  (Sr.fault_calls c l s p 0 s.size (spent x) k w h.so h.led).mono fun e w' ⟨he, g⟩ => ⟨by rw [he, if_neg (by show ¬ (3 : Int) = 0; decide)], h.grown g, g⟩

theorem fault_end5 (c l : Nat) (s : ByteArray) (p : Nat) (x : St) (k : Int) (w : World) (h : Rd c l s p x w) (hr : x.r = 0) :
    Calls Tryz.prog 51 #[.pointer (some ⟨c, 0, none⟩), .int .i64 k] w
      fun e w' => e = .returned (.agg #[.int .i64 1, .int .i64 k, .int .i64 s.size]) ∧ Rd c l s p x w' ∧ w.grownBy w' none :=
  (Sr.fault_calls c l s p 0 s.size x k w h.so h.led).mono fun e w' ⟨he, g⟩ => ⟨by rw [he, if_pos hr], h.grown g, g⟩

/-- A bad end is told. -/
theorem RS.ends {W : World} {M pb c l r cb g : Nat} {nm x2 fs cnt en gw gh d a : Nat} {mp lf tp : Bool} {pv : Value} {P : World → Prop} {C : Nat → Nat → Int} {s : ByteArray} {x : St} {o q n N q' : Nat} {L : List Nat} {w u v : World} {hb : Nat} {k b : Int} {y : St} {z' : PZ} (h : RS W pb c l r cb g nm x2 fs cnt en gw gh d a mp lf tp pv P C s x o q n N L w) (B : BS W M pb c l r cb g) (hP : ∀ u u', P u → (∀ k, k < M → k ∉ [g, pb, c, l] → u'.heap[k]? = u.heap[k]?) → P u') (t : Tn w u [c, l]) (t2 : Tn u v [hb]) (hh : W.heap.size ≤ hb) (R : Rd c l s q' y u) (E : EB s x z'.f z'.p z'.n k b q' y) :
    RP W pb c l r cb g nm x2 fs cnt en gw gh d a mp lf tp pv P C s x N z' (.returned (flT k b)) v := by
  obtain ⟨j1, j2, j3⟩ := h.bad B hP t t2 (by intro i hi; simp at hi; omega)
  have q1 := B.cw
  have q2 := B.lw
  exact ⟨j1, j2, .inr ⟨k, b, q', y, _, E, rfl, R.own t2 (by simp; omega) (by simp; omega), j3⟩⟩

set_option maxRecDepth 100000 in
set_option maxHeartbeats 4000000 in
theorem packets_calls (W : World) (M pb c l r cb g sz N a0 : Nat) (nm x2 fs cnt en gw gh d a : Nat) (mp lf tp : Bool) (pv : Value) (P : World → Prop) (C : Nat → Nat → Int) (KD PL : Nat → Nat) (s : ByteArray) (x : St) (B : BS W M pb c l r cb g) (hP : ∀ u u', P u → (∀ k, k < M → k ∉ [g, pb, c, l] → u'.heap[k]? = u.heap[k]?) → P u')
    (hb : KB s KD PL sz) (hC : ∀ o j, 0 ≤ C o j ∧ C o j ≤ 255) (KX0 : CodeR c l s sz #[.int .i64 nm, .bool mp, .int .i64 x2, .int .i64 fs, .int .i64 cnt, .int .i64 en, .int .i64 gw, .int .i64 gh, .int .i64 d, .int .i64 a, .bool lf, .bool tp] pv P C KD PL) (hN : gw * gh = N) (h1 : 1 ≤ gw) (hw : gw ≤ 16384) (hh : gh ≤ 16384) (hr : x.r = 0) (hza : a0 ≤ s.size) (I : RS W pb c l r cb g nm x2 fs cnt en gw gh d a mp lf tp pv P C s x 0 a0 0 N [] W) :
    Calls Tryz.prog 103 #[.pointer (some ⟨pb, 0, none⟩)] W (RP W pb c l r cb g nm x2 fs cnt en gw gh d a mp lf tp pv P C s x N (packs KD PL sz s N ⟨0, 0, a0, [], 0⟩ N)) := by
  have KR := Lib.hid (fun u m z (Bu : BS u M pb c l r cb g) (hz : z.f = 0) (ha : z.a ≤ s.size) (hm : z.l.length + m ≤ N) (Iu : RS u pb c l r cb g nm x2 fs cnt en gw gh d a mp lf tp pv P C s x 0 z.a z.n N z.l u) => read_calls u M pb c l r cb g sz N m nm x2 fs cnt en gw gh d a mp lf tp pv P C KD PL s x z Bu hP hb hC KX0 hN h1 hw hh hr hz ha hm Iu)
  have hNb : N ≤ 16384 * 16384 := by rw [← hN]; exact Nat.mul_le_mul hw hh
  obtain ⟨z0, hz0⟩ : ∃ z : PZ, (⟨0, 0, a0, [], 0⟩ : PZ) = z := ⟨_, rfl⟩
  have hz0l : z0.l.length = 0 := by rw [← hz0]; rfl
  have GZ := fun i => packs_gd hb N z0 (by rw [← hz0]) (by rw [← hz0]; exact hza) (by rw [← hz0]; exact Nat.zero_le _) hz0l (by rw [← hz0]) i
  rw [hz0]
  obtain ⟨Q, hQ⟩ : ∃ Q, RP W pb c l r cb g nm x2 fs cnt en gw gh d a mp lf tp pv P C s x N (packs KD PL sz s N z0 N) = Q := ⟨_, rfl⟩
  rw [hQ]
  have HQ := Lib.hid hQ
  have HI := Lib.hid (show RS W pb c l r cb g nm x2 fs cnt en gw gh d a mp lf tp pv P C s x 0 z0.a z0.n N z0.l W from by rw [← hz0]; exact I)
  have HB := Lib.hid B
  have HP := Lib.hid hP
  have HGZ := Lib.hid GZ
  have HK := Lib.hid hb
  have HZ := Lib.hid (And.intro hr (And.intro hz0l (show z0.f = 0 from by rw [← hz0])))
  have hpw := B.pw
  clear I hP hb hC KX0 hN h1 hw hh hr hza hz0 hz0l GZ hQ B
  go_enter Tryz.func103, Tryz.ntmps103
  go_wp2_with fail
  obtain ⟨hb, hhb⟩ : ∃ q, W.heap.size = q := ⟨_, rfl⟩
  have HF0 := Lib.hid (show Fl hb 0 0 0 (W.alloc (.cells #[.int .i64 0, .int .i64 0, .int .i64 0] 29)) from by rw [← hhb]; exact Fl.new W)
  have HI0 := Lib.hid (HI.out.step HB.out.mw HP.out (World.grownBy_alloc W (.cells #[.int .i64 0, .int .i64 0, .int .i64 0] 29) none))
  rw [hhb] at hpw ⊢
  have HHB := Lib.hid hhb
  generalize W.alloc (.cells #[.int .i64 0, .int .i64 0, .int .i64 0] 29) = w0 at HF0 HI0 ⊢
  clear hhb HI
  go_step3
  go_wp2_with fail
  go_step3
  go_wp2_with fail
  go_loopg [] N (fun q wx => ∃ i k0 : Nat, (packs KD PL sz s N z0 i).f = 0 ∧ N - (packs KD PL sz s N z0 i).l.length = k0 ∧ k0 = q ∧ i ≤ N ∧ RS W pb c l r cb g nm x2 fs cnt en gw gh d a mp lf tp pv P C s x 0 (packs KD PL sz s N z0 i).a (packs KD PL sz s N z0 i).n N (packs KD PL sz s N z0 i).l wx ∧ Fl hb 0 0 0 wx)
  case atStart => exact ⟨0, N, HZ.out.2.2, by show N - z0.l.length = N; rw [HZ.out.2.1]; rfl, rfl, Nat.zero_le _, HI0.out, HF0.out⟩
  case round =>
    obtain ⟨i, k0, hf, hk0, rfl, hiN, I, F⟩ := hrel
    obtain ⟨z, hz⟩ : ∃ z, packs KD PL sz s N z0 i = z := ⟨_, rfl⟩
    rw [hz] at hf I hk0
    have G := HGZ.out i
    rw [hz] at G
    have hlen := packs_len (KD := KD) (PL := PL) (sz := sz) s N z0 HZ.out.2.1 i hiN (by rw [hz]; exact hf)
    rw [hz] at hlen
    have hza := G.a hf
    obtain ⟨n, hn⟩ : ∃ n, z.l.length = n := ⟨_, rfl⟩
    rw [hn] at hk0
    have px := I.px
    rw [hn, hk0] at px
    have p_0 : wr.cell? ⟨pb, 0, none⟩ = some (.pointer (some ⟨c, 0, none⟩)) := blk_cell px 0
    have p_16 : wr.cell? ⟨pb, 16, none⟩ = some (.int .i64 k0) := blk_cell px 16
    have bl := blk_lt px
    have r0 := F.c0
    have r1 := F.c1
    have r2 := F.c2
    have rl := F.lt
    have HI := Lib.hid I
    have HF := Lib.hid F
    have HE := Lib.hid (And.intro hz (And.intro hf (And.intro hza (And.intro hlen (And.intro hn hk0)))))
    have HPX := Lib.hid px
    clear I F px G hz hf hza hlen hn hk0 HI0 HF0
    by_cases h0 : 0 < k0
    · have d1 : (0 : Int) < (k0 : Int) := by omega
      have HNX := Lib.hid (show (packs KD PL sz s N z0 (i + 1)) = pack KD PL sz s N z ∧ (pack KD PL sz s N z).n ≤ (packs KD PL sz s N z0 N).n from by
        have e : packs KD PL sz s N z0 (i + 1) = pack KD PL sz s N z := by rw [packs_succ, HE.out.1]
        refine ⟨e, ?_⟩
        rw [← e]
        exact packs_n s N z0 (by have := HE.out.2.2.2.1; have := HE.out.2.2.2.2.1; have := HE.out.2.2.2.2.2; omega))
      have hn0 := Lib.hid (show z.l.length < N from by have := HE.out.2.2.2.2.1; have := HE.out.2.2.2.2.2; omega)
      have KA := Lib.hid (fun u (hu : Rd c l s z.a (stp x z.n) u) => Sr.at_calls c l s z.a 0 s.size u hu.so)
      go_wp2_with fail
      refine (KA.out _ HI.out.rd).mono ?_
      rintro e u1 ⟨rfl, rfl⟩
      by_cases hw : (stp x z.n).st + 1 ≤ (stp x z.n).s
      · by_cases hin : z.a < s.size
        · have KU := Lib.hid (fun u (hu : Rd c l s z.a (stp x z.n) u) => Tk.u8_byte c l s z.a (stp x z.n) u hu HZ.out.1 hw hin)
          go_wp2_with fail
          refine (KU.out _ HI.out.rd).mono ?_
          rintro e u2 ⟨rfl, R2, t2⟩
          have HT2 := Lib.hid t2
          have HR2 := Lib.hid R2
          obtain ⟨by0, hby⟩ : ∃ q, Tk.bt s z.a = q := ⟨_, rfl⟩
          rw [hby]
          have hb8 : by0 < 256 := by rw [← hby]; exact Tk.bt_lt _ _
          have KP := Lib.hid (fun u => packet_calls by0 hb8 u)
          have HBY := Lib.hid (And.intro hby hb8)
          clear p_0 p_16 bl r0 r1 r2 rl R2 t2 hby hb8
          go_wp2_with fail
          refine (KP.out _).mono ?_
          rintro e u3 ⟨rfl, g3⟩
          obtain ⟨fl, hfl⟩ : ∃ q, flw by0 = q := ⟨_, rfl⟩
          obtain ⟨tm, htm⟩ : ∃ q, tms by0 = q := ⟨_, rfl⟩
          rw [hfl, htm]
          have HFT := Lib.hid (And.intro hfl htm)
          have HT3 := Lib.hid (HT2.out.trans (Tn.gb g3 (S := [c, l]) (by simp)))
          have px3 := kept HT3.out HPX.out (by simp; exact ⟨HB.out.pc, HB.out.pl⟩)
          have HR3 := Lib.hid (HR2.out.grown g3)
          have HP3 := Lib.hid px3
          clear px3 hfl htm g3 HT2 HR2
          go_wp2_with fail
          have bA : (u3.alloc (.cells #[.int .i64 fl, .int .i64 tm] 199)).heap[u3.heap.size]? = some (.cells #[.int .i64 fl, .int .i64 tm] 199 (0, 0)) := blk_at
          have gA := World.grownBy_alloc u3 (.cells #[.int .i64 fl, .int .i64 tm] 199) none
          obtain ⟨pk, hpk⟩ : ∃ q, u3.heap.size = q := ⟨_, rfl⟩
          have HPK := Lib.hid (show hb < pk from by rw [← hpk]; exact Nat.lt_of_lt_of_le HF.out.lt HT3.out.size)
          rw [hpk] at bA ⊢
          generalize u3.alloc (.cells #[.int .i64 fl, .int .i64 tm] 199) = v3 at bA gA ⊢
          have HTv := Lib.hid (HT3.out.trans (Tn.gb gA (S := [c, l]) (by simp)))
          have HRv := Lib.hid (HR3.out.grown gA)
          have HPv := Lib.hid (kept HTv.out HPX.out (by simp; exact ⟨HB.out.pc, HB.out.pl⟩))
          have HBA := Lib.hid bA
          obtain ⟨m, hm⟩ : ∃ q, fl * tm = q := ⟨_, rfl⟩
          have KC := Lib.hid (fun u => count_calls fl tm (by rw [← HFT.out.1]; exact flw_le _) (by rw [← HFT.out.2]; exact tms_le _) u)
          rw [hm] at KC
          have HM := Lib.hid hm
          have px3 := HPv.out
          have p_0 : v3.cell? ⟨pb, 0, none⟩ = some (.pointer (some ⟨c, 0, none⟩)) := blk_cell px3 0
          have p_16 : v3.cell? ⟨pb, 16, none⟩ = some (.int .i64 k0) := blk_cell px3 16
          have b_0 : v3.cell? ⟨pk, 0, none⟩ = some (.int .i64 fl) := blk_cell bA 0
          have b_1 : v3.cell? ⟨pk, 1, none⟩ = some (.int .i64 tm) := blk_cell bA 1
          have lpb := blk_lt px3
          have lpk := blk_lt bA
          clear px3 bA gA hpk hm HP3 HR3 HT3
          by_cases hmany : k0 < m
          · have dm : (k0 : Int) < (m : Int) := by omega
            go_cut [40] from 34 to 40 (fun sv wx => sv = .bool true ∧ v3.grownBy wx none)
            case first =>
              go_region_with (go_at_call 130; refine (KC.out _).mono ?_; intro e u4 hh; obtain ⟨rfl, g4⟩ := hh; have HG4 := Lib.hid (show v3.grownBy u4 none from by first | exact g4 | exact gb_trans (gb_drew _ _) g4); clear g4; have px4 := old0 HG4.out HPv.out (blk_lt HPv.out) (by simp); have q_16 : u4.cell? ⟨pb, 16, none⟩ = some (.int .i64 k0) := blk_cell px4 16; have lq := blk_lt px4; clear px4)
              all_goals
                go_wp2_with fail
                go_meet
                case rel => exact ⟨rfl, by first | exact HG4.out | exact gb_trans HG4.out (gb_drew _ _)⟩
            case rest =>
              obtain ⟨rfl, gc⟩ := hcut
              have HGC := Lib.hid gc
              clear p_0 p_16 b_0 b_1 lpb lpk gc
              have KG := Lib.hid (fun u => gfault_calls 2 z.a u)
              go_wp2_with fail
              refine (KG.out _).mono ?_
              rintro e u5 ⟨rfl, g5⟩
              have HG5 := Lib.hid (gb_trans HGC.out g5)
              unfold flT
              have f3 := (HF.out.turned HTv.out (by have := HB.out.cw; have := HB.out.lw; have := HHB.out; simp; omega)).turned (Tn.gb HG5.out (S := []) (by simp)) (by simp)
              have r0 := f3.c0
              have r1 := f3.c1
              have r2 := f3.c2
              have rf0 := f3.free 0
              have rf1 := f3.free 1
              have rf2 := f3.free 2
              have rl := f3.lt
              clear g5 f3
              go_wp2
              try rw [Exit.noGoto_ret]
              have t3 : Tn u5 (((u5.setCell ⟨hb, 0, none⟩ (.int .i64 2)).setCell ⟨hb, 1, none⟩ (.int .i64 2)).setCell ⟨hb, 2, none⟩ (.int .i64 z.a)) [hb] := (((Tn.refl u5 [hb]).st (by simp)).st (by simp)).st (by simp)
              refine bodyPost_ret (v := flT 2 z.a) (by unfold flT; simp only [results, Tryz.results103]; go_simp) rfl ?_
              rw [← HQ.out]
              have hall : packs KD PL sz s N z0 N = ⟨2, z.a, z.a + 1, z.l, z.n + 1⟩ := by
                have e := pack_many (KD := KD) (PL := PL) (sz := sz) (s := s) HE.out.2.1 hn0.out hin (by have := ft_mul by0; rw [HFT.out.1, HFT.out.2, HM.out] at this; have h5 : bn s z.a = by0 := HBY.out.1; rw [h5]; have := HE.out.2.2.2.2.1; have := HE.out.2.2.2.2.2; omega)
                rw [packs_all s N z0 HZ.out.2.1 (i := i + 1) (.inl (by rw [HNX.out.1, e]; exact Nat.succ_ne_zero 1)), HNX.out.1, e]
              rw [hall]
              exact HI.out.ends HB.out HP.out (HTv.out.trans (Tn.gb HG5.out (by simp))) t3 (by have := HHB.out; omega) (HRv.out.grown HG5.out) ⟨hin, .inl ⟨Nat.succ_ne_zero 1, rfl, rfl, stp_stp _ _ _⟩⟩
          · have dm : ¬ (k0 : Int) < (m : Int) := by omega
            go_cut [40] from 34 to 40 (fun sv wx => sv = .bool false ∧ v3.grownBy wx none)
            case first =>
              go_region_with (go_at_call 130; refine (KC.out _).mono ?_; intro e u4 hh; obtain ⟨rfl, g4⟩ := hh; have HG4 := Lib.hid (show v3.grownBy u4 none from by first | exact g4 | exact gb_trans (gb_drew _ _) g4); clear g4; have px4 := old0 HG4.out HPv.out (blk_lt HPv.out) (by simp); have q_16 : u4.cell? ⟨pb, 16, none⟩ = some (.int .i64 k0) := blk_cell px4 16; have lq := blk_lt px4; clear px4)
              all_goals
                go_wp2_with fail
                go_meet
                case rel => exact ⟨rfl, by first | exact HG4.out | exact gb_trans HG4.out (gb_drew _ _)⟩
            case rest =>
              obtain ⟨rfl, gc⟩ := hcut
              have HGC := Lib.hid gc
              clear p_0 p_16 b_0 b_1 lpb lpk gc
              have HRc := Lib.hid (HI.out.src HB.out HP.out (HTv.out.trans (Tn.gb HGC.out (S := [c, l]) (by simp))) (by rw [← stp_stp]; exact HRv.out.grown HGC.out))
              have HFc := Lib.hid ((HF.out.turned HTv.out (by have := HB.out.cw; have := HB.out.lw; have := HHB.out; simp; omega)).turned (Tn.gb HGC.out (S := []) (by simp)) (by simp))
              have HBc := Lib.hid (old0 HGC.out HBA.out (blk_lt HBA.out) (by simp))
              have bc := HBc.out
              have b_0 : wc.cell? ⟨pk, 0, none⟩ = some (.int .i64 fl) := blk_cell bc 0
              clear bc
              obtain ⟨z1, hz1⟩ : ∃ z1 : PZ, (⟨0, 0, z.a + 1, z.l, z.n + 1⟩ : PZ) = z1 := ⟨_, rfl⟩
              have HPG := Lib.hid (show pack KD PL sz s N z = pixs KD PL sz tm z1 fl from by
                have h5 : bn s z.a = by0 := HBY.out.1
                have h6 := ft_mul by0
                rw [HFT.out.1, HFT.out.2, HM.out] at h6
                have e := pack_go (KD := KD) (PL := PL) (sz := sz) (s := s) HE.out.2.1 hn0.out hin (by rw [h5]; have := HE.out.2.2.2.2.1; have := HE.out.2.2.2.2.2; omega)
                rw [h5, HFT.out.1, HFT.out.2, hz1] at e
                exact e)
              have HR1 := Lib.hid (show RS W pb c l r cb g nm x2 fs cnt en gw gh d a mp lf tp pv P C s x 0 z1.a z1.n N z1.l wc from by rw [← hz1]; exact HRc.out)
              have HZ1 := Lib.hid (show z1.f = 0 ∧ z1.l.length = n ∧ z1.a ≤ s.size ∧ z1.p ≤ s.size from by rw [← hz1]; exact ⟨rfl, HE.out.2.2.2.2.1, hin, Nat.zero_le _⟩)
              have htm1 : 1 ≤ tm := by rw [← HFT.out.2]; exact tms_one _
              have HG1 := Lib.hid (fun i => pixs_gd HK.out tm htm1 z1 HZ1.out.1 HZ1.out.2.2.1 HZ1.out.2.2.2 i)
              have HNM := Lib.hid (show n + m ≤ N from by have := HE.out.2.2.2.2.1; have := HE.out.2.2.2.2.2; have := hn0.out; omega)
              have HPN := Lib.hid HPK.out
              clear hz1 htm1
              go_wp2_with fail
              go_loopg [45] fl (fun q iv wx => ∃ j k1 : Nat, (pixs KD PL sz tm z1 j).f = 0 ∧ fl - j = k1 ∧ k1 = q ∧ j ≤ fl ∧ iv = .int .i64 j ∧ RS W pb c l r cb g nm x2 fs cnt en gw gh d a mp lf tp pv P C s x 0 (pixs KD PL sz tm z1 j).a (pixs KD PL sz tm z1 j).n N (pixs KD PL sz tm z1 j).l wx ∧ Fl hb 0 0 0 wx ∧ wx.heap[pk]? = some (.cells #[.int .i64 fl, .int .i64 tm] 199 (0, 0)))
              case atStart => exact ⟨0, fl, HZ1.out.1, rfl, rfl, Nat.zero_le _, rfl, HR1.out, HFc.out, HBc.out⟩
              case round =>
                obtain ⟨j, k1, hf, hk1, rfl, hjf, rfl, I, F, X⟩ := hrel
                obtain ⟨zz, hzz⟩ : ∃ q, pixs KD PL sz tm z1 j = q := ⟨_, rfl⟩
                rw [hzz] at hf I
                have hjb : (j : Int) ≤ 128 := by have := flw_le by0; rw [HFT.out.1] at this; omega
                have b_1 : wr.cell? ⟨pk, 1, none⟩ = some (.int .i64 tm) := blk_cell X 1
                have b_0 : wr.cell? ⟨pk, 0, none⟩ = some (.int .i64 fl) := blk_cell X 0
                have lpk := blk_lt X
                have px := I.px
                have lpb := blk_lt px
                have HI2 := Lib.hid I
                have HF2 := Lib.hid F
                have HX2 := Lib.hid X
                have HJ := Lib.hid (And.intro hzz (And.intro hf hk1))
                clear I F X hzz hf hk1 px HR1 HFc HBc
                by_cases hjl : j < fl
                · have dj : (j : Int) < (fl : Int) := by omega
                  have hzl : zz.l.length + tm ≤ N := by
                    have h1 := pixs_len (KD := KD) (PL := PL) (sz := sz) tm z1 j (by rw [HJ.out.1]; exact HJ.out.2.1)
                    rw [HJ.out.1, HZ1.out.2.1] at h1
                    have h2 : (j + 1) * tm ≤ fl * tm := Nat.mul_le_mul_right tm hjl
                    rw [HM.out, Nat.succ_mul] at h2
                    have := HNM.out
                    omega
                  have hzza : zz.a ≤ s.size := by have h := (HG1.out j).1; rw [HJ.out.1] at h; exact h HJ.out.2.1
                  have KRj := Lib.hid (KR.out wr tm zz (HB.out.grow HI2.out.tn.size) HJ.out.2.1 hzza hzl HI2.out.re)
                  clear hzl hzza
                  go_wp2_with fail
                  refine KRj.out.mono ?_
                  rintro e u6 h6
                  clear b_0 b_1 lpk lpb
                  have hnb : hb ∉ [g, pb, c, l] := by have := HB.out.cw; have := HB.out.lw; have := HB.out.gw; have := HB.out.pw; have := HHB.out; simp; omega
                  have hnk : pk ∉ [g, pb, c, l] := by have := HB.out.cw; have := HB.out.lw; have := HB.out.gw; have := HB.out.pw; have := HHB.out; have := HPK.out; simp; omega
                  have HNB := Lib.hid hnb
                  have HNK := Lib.hid hnk
                  obtain ⟨t6, p6, ⟨hf6, rfl, J6⟩ | ⟨kk, bb, q6, y6, R6, E6, rfl, rd6, ro6⟩⟩ := h6
                  · have f6 := HF2.out.turned t6 HNB.out
                    have x6 := kept t6 HX2.out HNK.out
                    have r0 := f6.c0
                    have r1 := f6.c1
                    have r2 := f6.c2
                    have rf0 := f6.free 0
                    have rf1 := f6.free 1
                    have rf2 := f6.free 2
                    have rl := f6.lt
                    have H6 := Lib.hid (And.intro t6 (And.intro p6 (And.intro hf6 (And.intro J6 (And.intro f6 x6)))))
                    clear t6 p6 hf6 J6 f6 x6 hnb hnk
                    unfold okT
                    go_wp2_with fail
                    have t7 : Tn u6 (((u6.setCell ⟨hb, 0, none⟩ (.int .i64 0)).setCell ⟨hb, 1, none⟩ (.int .i64 0)).setCell ⟨hb, 2, none⟩ (.int .i64 0)) [hb] := (((Tn.refl u6 [hb]).st (by simp)).st (by simp)).st (by simp)
                    have HT7 := Lib.hid t7
                    clear t7
                    have HS6 := Lib.hid (pixs_succ (KD := KD) (PL := PL) (sz := sz) tm z1 j)
                    go_roundg (fl - (j + 1))
                    case measure => have := HJ.out.2.2; omega
                    case rel => exact ⟨j + 1, fl - (j + 1), by rw [HS6.out, HJ.out.1]; exact H6.out.2.2.1, rfl, rfl, hjl, by go_num, by rw [HS6.out, HJ.out.1]; exact (H6.out.2.2.2.1.with HI2.out.tn).own HB.out HP.out HT7.out (by have := HHB.out; intro i hi; simp at hi; omega), H6.out.2.2.2.2.1.set 0 0 0, kept HT7.out H6.out.2.2.2.2.2 (by have := HPK.out; simp; omega)⟩
                  · have f6 := HF2.out.turned t6 HNB.out
                    have hkn := E6.kne
                    have r0 := f6.c0
                    have r1 := f6.c1
                    have r2 := f6.c2
                    have rf0 := f6.free 0
                    have rf1 := f6.free 1
                    have rf2 := f6.free 2
                    have rl := f6.lt
                    have H6 := Lib.hid (And.intro t6 (And.intro p6 (And.intro E6 (And.intro rd6 (And.intro ro6 f6)))))
                    clear t6 p6 E6 rd6 ro6 f6 hnb hnk
                    unfold flT
                    go_wp2_with fail
                    try rw [Exit.noGoto_ret]
                    have t7 : Tn u6 ((((((u6.setCell ⟨hb, 0, none⟩ (.int .i64 kk)).setCell ⟨hb, 1, none⟩ (.int .i64 2)).setCell ⟨hb, 2, none⟩ (.int .i64 bb)).setCell ⟨hb, 0, none⟩ (.int .i64 kk)).setCell ⟨hb, 1, none⟩ (.int .i64 2)).setCell ⟨hb, 2, none⟩ (.int .i64 bb)) [hb] := ((((((Tn.refl u6 [hb]).st (by simp)).st (by simp)).st (by simp)).st (by simp)).st (by simp)).st (by simp)
                    have f7 : Fl hb kk 2 bb ((((((u6.setCell ⟨hb, 0, none⟩ (.int .i64 kk)).setCell ⟨hb, 1, none⟩ (.int .i64 2)).setCell ⟨hb, 2, none⟩ (.int .i64 bb)).setCell ⟨hb, 0, none⟩ (.int .i64 kk)).setCell ⟨hb, 1, none⟩ (.int .i64 2)).setCell ⟨hb, 2, none⟩ (.int .i64 bb)) := (H6.out.2.2.2.2.2.set kk 2 bb).set kk 2 bb
                    generalize ((((((u6.setCell ⟨hb, 0, none⟩ (.int .i64 kk)).setCell ⟨hb, 1, none⟩ (.int .i64 2)).setCell ⟨hb, 2, none⟩ (.int .i64 bb)).setCell ⟨hb, 0, none⟩ (.int .i64 kk)).setCell ⟨hb, 1, none⟩ (.int .i64 2)).setCell ⟨hb, 2, none⟩ (.int .i64 bb)) = v at t7 f7 ⊢
                    have w0 := f7.c0
                    have w1 := f7.c1
                    have w2 := f7.c2
                    refine bodyPost_ret (v := flT kk bb) (by unfold flT; simp only [results, Tryz.results103]; go_simp) rfl ?_
                    rw [← HQ.out]
                    have e1 : pixs KD PL sz tm z1 (j + 1) = pix KD PL sz tm zz := by rw [pixs_succ, HJ.out.1]
                    have h2 : (pix KD PL sz tm zz).n ≤ (packs KD PL sz s N z0 N).n := by
                      have h := pixs_n (KD := KD) (PL := PL) (sz := sz) tm z1 (show j + 1 ≤ fl from hjl)
                      rw [e1, ← HPG.out] at h
                      exact Nat.le_trans h HNX.out.2
                    have h1 : (pix KD PL sz tm zz).f ≠ 0 → packs KD PL sz s N z0 N = pix KD PL sz tm zz := by
                      intro h
                      have h3 := pixs_stay (KD := KD) (PL := PL) (sz := sz) tm z1 (show j + 1 ≤ fl from hjl) (by rw [e1]; exact h)
                      rw [e1, ← HPG.out] at h3
                      rw [packs_all s N z0 HZ.out.2.1 (i := i + 1) (.inl (by rw [HNX.out.1, h3]; exact h)), HNX.out.1, h3]
                    have hE : EB s x (packs KD PL sz s N z0 N).f (packs KD PL sz s N z0 N).p (packs KD PL sz s N z0 N).n kk bb q6 y6 :=
                      EB.lift (m := 0) (by rw [stp_0]; exact H6.out.2.2.1) (fun h => by rw [h1 h]; exact ⟨rfl, rfl, (Nat.zero_add _).symm⟩) (by rw [Nat.zero_add]; exact h2)
                    have q0 := HHB.out
                    have q1 := HB.out.cw
                    have q2 := HB.out.lw
                    have q3 := HB.out.rw
                    have q4 := HB.out.bw
                    have q5 := HB.out.gw
                    have q7 := HB.out.mw
                    have TW := HI2.out.tn.trans H6.out.1
                    exact ⟨TW.over t7 (fun i hi => .inl (by simp at hi; omega)), HP.out _ _ H6.out.2.1 (fun i hi _ => t7.block i (Nat.lt_of_lt_of_le hi (Nat.le_trans q7 TW.size)) (by simp; omega)), .inr ⟨kk, bb, q6, y6, R6, hE, rfl, H6.out.2.2.2.1.own t7 (by simp; omega) (by simp; omega), H6.out.2.2.2.2.1.turned (tB t7) (by simp; omega) (by simp; omega) (by simp; omega)⟩⟩
                · have dj : ¬ (j : Int) < (fl : Int) := by omega
                  go_wp2_with fail
                  have hjj : j = fl := by omega
                  have HQQ := Lib.hid (show packs KD PL sz s N z0 (i + 1) = zz from by rw [HNX.out.1, HPG.out, ← hjj, HJ.out.1])
                  have hzl : n < zz.l.length := by
                    have h1 := pixs_len (KD := KD) (PL := PL) (sz := sz) tm z1 j (by rw [HJ.out.1]; exact HJ.out.2.1)
                    rw [HJ.out.1, HZ1.out.2.1, hjj, HM.out] at h1
                    have h2 := ft_mul by0
                    rw [HFT.out.1, HFT.out.2, HM.out] at h2
                    omega
                  have hi1 : i + 1 ≤ N := by have := HE.out.2.2.2.1; have := HE.out.2.2.2.2.1; have := hn0.out; omega
                  go_roundg (N - (packs KD PL sz s N z0 (i + 1)).l.length)
                  case measure => rw [HQQ.out]; have := HE.out.2.2.2.2.1; have := HE.out.2.2.2.2.2; omega
                  case rel => exact ⟨i + 1, _, by rw [HQQ.out]; exact HJ.out.2.1, rfl, rfl, hi1, by rw [HQQ.out]; exact HI2.out, HF2.out⟩
        · have hin1 := Nat.le_of_not_lt hin
          have KU := Lib.hid (fun u (hu : Rd c l s z.a (stp x z.n) u) => Tk.u8_over c l s z.a (stp x z.n) u hu HZ.out.1 hw hin1)
          have KF := Lib.hid (fun u (hu : Rd c l s z.a (stp (stp x z.n) 1) u) => fault_end5 c l s z.a (stp (stp x z.n) 1) 2 u hu HZ.out.1)
          go_wp2_with fail
          refine (KU.out _ HI.out.rd).mono ?_
          rintro e u2 ⟨rfl, R2, t2⟩
          have HT2 := Lib.hid t2
          have HR2 := Lib.hid R2
          have px2 := kept t2 HPX.out (by simp; exact ⟨HB.out.pc, HB.out.pl⟩)
          clear p_0 p_16 bl r0 r1 r2 rl R2 t2
          have p_0 : u2.cell? ⟨pb, 0, none⟩ = some (.pointer (some ⟨c, 0, none⟩)) := blk_cell px2 0
          clear px2
          go_wp2_with fail
          refine (KF.out _ HR2.out).mono ?_
          rintro e u3 ⟨rfl, R3, g3⟩
          have HR3 := Lib.hid R3
          have HG3 := Lib.hid g3
          have f3 := (HF.out.turned HT2.out (by have := HB.out.cw; have := HB.out.lw; have := HHB.out; simp; omega)).turned (Tn.gb g3 (S := []) (by simp)) (by simp)
          have r0 := f3.c0
          have r1 := f3.c1
          have r2 := f3.c2
          have rf0 := f3.free 0
          have rf1 := f3.free 1
          have rf2 := f3.free 2
          have rl := f3.lt
          clear R3 g3 f3 p_0
          go_wp2
          try rw [Exit.noGoto_ret]
          have t3 : Tn u3 (((u3.setCell ⟨hb, 0, none⟩ (.int .i64 1)).setCell ⟨hb, 1, none⟩ (.int .i64 2)).setCell ⟨hb, 2, none⟩ (.int .i64 (s.size : Int))) [hb] := (((Tn.refl u3 [hb]).st (by simp)).st (by simp)).st (by simp)
          refine bodyPost_ret (v := flT 1 (s.size : Int)) (by unfold flT; simp only [results, Tryz.results103]; go_simp) rfl ?_
          rw [← HQ.out]
          have hall : packs KD PL sz s N z0 N = ⟨1, s.size, z.a, z.l, z.n + 1⟩ := by
            have e := pack_end (KD := KD) (PL := PL) (sz := sz) (s := s) HE.out.2.1 hn0.out (Nat.le_of_not_lt hin)
            rw [packs_all s N z0 HZ.out.2.1 (i := i + 1) (.inl (by rw [HNX.out.1, e]; exact Nat.one_ne_zero)), HNX.out.1, e]
          rw [hall]
          exact HI.out.ends HB.out HP.out (HT2.out.trans (Tn.gb HG3.out (by simp))) t3 (by have := HHB.out; omega) HR3.out ⟨HE.out.2.2.1, .inl ⟨Nat.one_ne_zero, rfl, rfl, stp_stp _ _ _⟩⟩
      · have hw1 := Int.lt_of_not_ge hw
        have KU := Lib.hid (fun u (hu : Rd c l s z.a (stp x z.n) u) => Tk.u8_spent c l s z.a (stp x z.n) u hu HZ.out.1 hw1)
        have KF := Lib.hid (fun u (hu : Rd c l s z.a (spent (stp x z.n)) u) => fault_spent5 c l s z.a (stp x z.n) 2 u hu)
        go_wp2_with fail
        refine (KU.out _ HI.out.rd).mono ?_
        rintro e u2 ⟨rfl, R2, t2⟩
        have HT2 := Lib.hid t2
        have HR2 := Lib.hid R2
        have px2 := kept t2 HPX.out (by simp; exact ⟨HB.out.pc, HB.out.pl⟩)
        clear p_0 p_16 bl r0 r1 r2 rl R2 t2
        have p_0 : u2.cell? ⟨pb, 0, none⟩ = some (.pointer (some ⟨c, 0, none⟩)) := blk_cell px2 0
        clear px2
        go_wp2_with fail
        refine (KF.out _ HR2.out).mono ?_
        rintro e u3 ⟨rfl, R3, g3⟩
        have HR3 := Lib.hid R3
        have HG3 := Lib.hid g3
        have f3 := (HF.out.turned HT2.out (by have := HB.out.cw; have := HB.out.lw; have := HHB.out; simp; omega)).turned (Tn.gb g3 (S := []) (by simp)) (by simp)
        have r0 := f3.c0
        have r1 := f3.c1
        have r2 := f3.c2
        have rf0 := f3.free 0
        have rf1 := f3.free 1
        have rf2 := f3.free 2
        have rl := f3.lt
        clear R3 g3 f3 p_0
        go_wp2
        try rw [Exit.noGoto_ret]
        have t3 : Tn u3 (((u3.setCell ⟨hb, 0, none⟩ (.int .i64 4)).setCell ⟨hb, 1, none⟩ (.int .i64 2)).setCell ⟨hb, 2, none⟩ (.int .i64 z.a)) [hb] := (((Tn.refl u3 [hb]).st (by simp)).st (by simp)).st (by simp)
        refine bodyPost_ret (v := flT 4 z.a) (by unfold flT; simp only [results, Tryz.results103]; go_simp) rfl ?_
        rw [← HQ.out]
        have hnn : x.s < x.st + ((packs KD PL sz s N z0 N).n : Int) := by
          have q1 := pack_n1 (KD := KD) (PL := PL) (sz := sz) (s := s) HE.out.2.1 hn0.out
          have q2 := HNX.out.2
          have q3 : (stp x z.n).s < (stp x z.n).st + 1 := hw1
          rw [stp_s, stp_st] at q3
          omega
        exact HI.out.ends HB.out HP.out (HT2.out.trans (Tn.gb HG3.out (by simp))) t3 (by have := HHB.out; omega) HR3.out ⟨HE.out.2.2.1, .inr ⟨hnn, rfl, rfl, rfl⟩⟩
    · have d1 : ¬ (0 : Int) < (k0 : Int) := by omega
      have rf0 := HF.out.free 0
      have rf1 := HF.out.free 1
      have rf2 := HF.out.free 2
      go_wp2
      try rw [Exit.noGoto_ret]
      have t3 : Tn wr (((wr.setCell ⟨hb, 0, none⟩ (.int .i64 0)).setCell ⟨hb, 1, none⟩ (.int .i64 0)).setCell ⟨hb, 2, none⟩ (.int .i64 0)) [hb] := (((Tn.refl wr [hb]).st (by simp)).st (by simp)).st (by simp)
      refine bodyPost_ret (v := okT) (by unfold okT; simp only [results, Tryz.results103]; go_simp) rfl ?_
      rw [← HQ.out]
      have hall : packs KD PL sz s N z0 N = z := by
        rw [packs_all s N z0 HZ.out.2.1 (i := i) (.inr (by rw [HE.out.1, HE.out.2.2.2.2.1]; have := HE.out.2.2.2.2.2; omega)), HE.out.1]
      rw [hall]
      have J := HI.out.own HB.out HP.out t3 (by intro i hi; simp at hi; rw [HHB.out]; omega)
      exact ⟨J.tn, J.pp, .inl ⟨HE.out.2.1, rfl, J⟩⟩

end Go.Proofs.YtnieeckdldpebaaGreat.Tr

/- Layer 18: all pixels of a head are read, by any ledger (written by wip/gen/tr6.py). -/
namespace Go.Proofs.YtnieeckdldpebaaGreat.Tr
open Go.ChangeShapes Go.WideShapes Go.ChangeAt Go.RowKit
open Go.Proofs.YtnieeckdldpebaaGreat.Sc Go.Proofs.YtnieeckdldpebaaGreat.Le Go.Proofs.YtnieeckdldpebaaGreat.Pa Go.Proofs.YtnieeckdldpebaaGreat.Tk Go.Proofs.YtnieeckdldpebaaGreat.Tg Go.Proofs.YtnieeckdldpebaaGreat.Tp Go.Proofs.YtnieeckdldpebaaGreat.Ra
set_option linter.unusedVariables false

/-- The blocks that a reading of all pixels works on. -/
structure B0 (W : World) (M c l r cb g : Nat) : Prop where
  mw : M ≤ W.heap.size
  rc : r ≠ c
  cbc : cb ≠ c
  cbl : cb ≠ l
  gc : g ≠ c
  gl : g ≠ l
  rl : r ≠ l
  rg : r ≠ g
  cg : cb ≠ g
  cw : c < W.heap.size
  lw : l < W.heap.size
  rw : r < W.heap.size
  bw : cb < W.heap.size
  gw : g < W.heap.size
theorem B0.bs {W w : World} {M c l r cb g pb : Nat} (h : B0 W M c l r cb g) (h1 : W.heap.size ≤ pb) (h2 : pb < w.heap.size) : BS w M pb c l r cb g := by
  obtain ⟨mw, rc, cbc, cbl, gc, gl, rl, rg, cg, cw, lw, rw', bw, gw⟩ := h
  exact ⟨by omega, by omega, by omega, by omega, by omega, by omega, rc, cbc, cbl, gc, gl, rl, rg, cg, h2, by omega, by omega, by omega, by omega, by omega⟩
/-- Behind Read: Z is what is told. -/
def ZP (W : World) (c l r cb g gw gh : Nat) (lf tp : Bool) (P : World → Prop) (C : Nat → Nat → Int) (s : ByteArray) (x : St) (N : Nat) (Z : PZ) (e : Ending) (w' : World) : Prop :=
  Tn W w' [g, c, l] ∧ P w' ∧ ((Z.f = 0 ∧ e = .returned okT ∧ Rd c l s Z.a (stp x Z.n) w' ∧ Ro r l cb g gw gh (rsl (plI gw gh lf tp) (fB C) Z.l N) w') ∨
    (∃ (k b : Int) (q : Nat) (y : St) (R : ByteArray), EB s x Z.f Z.p Z.n k b q y ∧ e = .returned (flT k b) ∧ Rd c l s q y w' ∧ Ro r l cb g gw gh R w'))
/-- Behind the packets, and behind the result's cells. -/
theorem ZP.of {W w u v : World} {M pb c l r cb g hb : Nat} {nm x2 fs cnt en gw gh d a : Nat} {mp lf tp : Bool} {pv : Value} {P : World → Prop} {C : Nat → Nat → Int} {s : ByteArray} {x : St} {N : Nat} {Z : PZ} {e : Ending} (B : B0 W M c l r cb g) (hP : ∀ u u', P u → (∀ k, k < M → k ∉ [g, c, l] → u'.heap[k]? = u.heap[k]?) → P u')
    (h : RP w pb c l r cb g nm x2 fs cnt en gw gh d a mp lf tp pv P C s x N Z e u) (t0 : W.grownBy w none) (hp : W.heap.size ≤ pb) (hh : W.heap.size ≤ hb) (t : Tn u v [hb]) : ZP W c l r cb g gw gh lf tp P C s x N Z e v := by
  obtain ⟨mw, rc, cbc, cbl, gc, gl, rl, rg, cg, cw, lw, rw', bw, gw⟩ := B
  obtain ⟨t1, p1, h1⟩ := h
  have TW := (Tn.gb t0 (S := [g, c, l]) (by simp)).over t1 (by intro i hi; simp at hi ⊢; omega)
  refine ⟨TW.over t (by intro i hi; simp at hi; left; omega), hP _ _ p1 (fun i hi _ => t.block i (Nat.lt_of_lt_of_le hi (Nat.le_trans mw TW.size)) (by simp; omega)), ?_⟩
  obtain ⟨hf, he, J⟩ | ⟨k, b, q, y, R, E, he, rd, ro⟩ := h1
  · exact .inl ⟨hf, he, J.rd.own t (by simp; omega) (by simp; omega), J.ro.turned (tB t) (by simp; omega) (by simp; omega) (by simp; omega)⟩
  · exact .inr ⟨k, b, q, y, R, E, he, rd.own t (by simp; omega) (by simp; omega), ro.turned (tB t) (by simp; omega) (by simp; omega) (by simp; omega)⟩

set_option maxRecDepth 100000 in
set_option maxHeartbeats 4000000 in
theorem tread_calls (W : World) (M c l r cb g sz N a0 : Nat) (nm x2 fs cnt en gw gh d a : Nat) (mp lf tp : Bool) (pq : Option Addr) (P : World → Prop) (C : Nat → Nat → Int) (KD PL : Nat → Nat) (s : ByteArray) (x : St) (B : B0 W M c l r cb g) (hP : ∀ u u', P u → (∀ k, k < M → k ∉ [g, c, l] → u'.heap[k]? = u.heap[k]?) → P u')
    (hb : KB s KD PL sz) (hC : ∀ o j, 0 ≤ C o j ∧ C o j ≤ 255) (KX0 : CodeR c l s sz #[.int .i64 nm, .bool mp, .int .i64 x2, .int .i64 fs, .int .i64 cnt, .int .i64 en, .int .i64 gw, .int .i64 gh, .int .i64 d, .int .i64 a, .bool lf, .bool tp] (.pointer pq) P C KD PL) (hN : gw * gh = N) (h1 : 1 ≤ gw) (hw : gw ≤ 16384) (hh : gh ≤ 16384) (hr : x.r = 0) (hza : a0 ≤ s.size) (hR : Rd c l s a0 x W) (hO : Ro r l cb g gw gh (Bu.rep 0 (4 * N)) W) (hp : P W) :
    Calls Tryz.prog 57 #[.pointer (some ⟨c, 0, none⟩), .agg #[.int .i64 nm, .bool mp, .int .i64 x2, .int .i64 fs, .int .i64 cnt, .int .i64 en, .int .i64 gw, .int .i64 gh, .int .i64 d, .int .i64 a, .bool lf, .bool tp], (.pointer pq), .pointer (some ⟨r, 0, none⟩)] W (ZP W c l r cb g gw gh lf tp P C s x N (allZ KD PL sz s (decide (9 ≤ (x2 : Int)) && decide ((x2 : Int) ≤ 11)) N a0)) := by
  have hP5 : ∀ pb, W.heap.size ≤ pb → ∀ u u', P u → (∀ k, k < M → k ∉ [g, pb, c, l] → u'.heap[k]? = u.heap[k]?) → P u' := fun pb hpb u u' hu h => hP u u' hu (fun k hk hn => h k hk (by have := B.mw; simp at hn ⊢; omega))
  have KK := Lib.hid (fun u (pb : Nat) (hpb : W.heap.size ≤ pb) (Bu : BS u M pb c l r cb g) (Iu : RS u pb c l r cb g nm x2 fs cnt en gw gh d a mp lf tp (.pointer pq) P C s x 0 a0 0 N [] u) => packets_calls u M pb c l r cb g sz N a0 nm x2 fs cnt en gw gh d a mp lf tp (.pointer pq) P C KD PL s x Bu (hP5 pb hpb) hb hC KX0 hN h1 hw hh hr hza Iu)
  have KR := Lib.hid (fun u (pb : Nat) (hpb : W.heap.size ≤ pb) z (Bu : BS u M pb c l r cb g) (hz : z.f = 0) (ha : z.a ≤ s.size) (hm : z.l.length + 1 ≤ N) (Iu : RS u pb c l r cb g nm x2 fs cnt en gw gh d a mp lf tp (.pointer pq) P C s x 0 z.a z.n N z.l u) => read_calls u M pb c l r cb g sz N 1 nm x2 fs cnt en gw gh d a mp lf tp (.pointer pq) P C KD PL s x z Bu (hP5 pb hpb) hb hC KX0 hN h1 hw hh hr hz ha hm Iu)
  have hNb : N ≤ 16384 * 16384 := by rw [← hN]; exact Nat.mul_le_mul hw hh
  have hmul : IntKind.i64.wrap ((gw : Int) * (gh : Int)) = (N : Int) := by rw [← Int.natCast_mul, hN]; exact IntWalk.i64_in _ (by omega)
  obtain ⟨pk, hpk⟩ : ∃ q, (decide (9 ≤ (x2 : Int)) && decide ((x2 : Int) ≤ 11)) = q := ⟨_, rfl⟩
  have KP0 := fun u => packed_calls (x2 : Int) u
  rw [hpk] at KP0 ⊢
  have KP := Lib.hid KP0
  have HG := Lib.hid (fun i => pixs_gd hb 1 (Nat.le_refl 1) ⟨0, 0, a0, [], 0⟩ rfl hza (Nat.zero_le _) i)
  have HB := Lib.hid B
  have HP := Lib.hid hP
  have HP5 := Lib.hid hP5
  have HS := Lib.hid (And.intro hR (And.intro hO hp))
  have hlt := B.rw
  obtain ⟨Q, hQ⟩ : ∃ Q, ZP W c l r cb g gw gh lf tp P C s x N (allZ KD PL sz s pk N a0) = Q := ⟨_, rfl⟩
  rw [hQ]
  have HQ := Lib.hid hQ
  clear hP hP5 hb hC KX0 hN h1 hw hh hr hza hR hO hp hpk KP0 B hQ
  go_enter Tryz.func57, Tryz.ntmps57
  go_wp2_with fail
  have g3 : W.grownBy (((W.alloc (.cells #[.int .i64 nm, .bool mp, .int .i64 x2, .int .i64 fs, .int .i64 cnt, .int .i64 en, .int .i64 gw, .int .i64 gh, .int .i64 d, .int .i64 a, .bool lf, .bool tp] 55)).alloc (.cells #[.int .i64 0, .int .i64 0, .int .i64 0] 29)).alloc (.cells #[.pointer (some ⟨c, 0, none⟩), .int .i64 nm, .bool mp, .int .i64 x2, .int .i64 fs, .int .i64 cnt, .int .i64 en, .int .i64 gw, .int .i64 gh, .int .i64 d, .int .i64 a, .bool lf, .bool tp, .pointer pq, .pointer (some ⟨r, 0, none⟩), .int .i64 0, .int .i64 N] 162)) none := gb_trans (World.grownBy_alloc _ _ none) (gb_trans (World.grownBy_alloc _ _ none) (World.grownBy_alloc _ _ none))
  have F0 : Fl (W.heap.size + 1) 0 0 0 (((W.alloc (.cells #[.int .i64 nm, .bool mp, .int .i64 x2, .int .i64 fs, .int .i64 cnt, .int .i64 en, .int .i64 gw, .int .i64 gh, .int .i64 d, .int .i64 a, .bool lf, .bool tp] 55)).alloc (.cells #[.int .i64 0, .int .i64 0, .int .i64 0] 29)).alloc (.cells #[.pointer (some ⟨c, 0, none⟩), .int .i64 nm, .bool mp, .int .i64 x2, .int .i64 fs, .int .i64 cnt, .int .i64 en, .int .i64 gw, .int .i64 gh, .int .i64 d, .int .i64 a, .bool lf, .bool tp, .pointer pq, .pointer (some ⟨r, 0, none⟩), .int .i64 0, .int .i64 N] 162)) := old0 (World.grownBy_alloc _ _ none) blk_at1 (by rw [size_alloc, size_alloc]; omega) (by simp)
  have X0 : PxB (W.heap.size + 1 + 1) c nm x2 fs cnt en gw gh d a mp lf tp (.pointer pq) r 0 N (((W.alloc (.cells #[.int .i64 nm, .bool mp, .int .i64 x2, .int .i64 fs, .int .i64 cnt, .int .i64 en, .int .i64 gw, .int .i64 gh, .int .i64 d, .int .i64 a, .bool lf, .bool tp] 55)).alloc (.cells #[.int .i64 0, .int .i64 0, .int .i64 0] 29)).alloc (.cells #[.pointer (some ⟨c, 0, none⟩), .int .i64 nm, .bool mp, .int .i64 x2, .int .i64 fs, .int .i64 cnt, .int .i64 en, .int .i64 gw, .int .i64 gh, .int .i64 d, .int .i64 a, .bool lf, .bool tp, .pointer pq, .pointer (some ⟨r, 0, none⟩), .int .i64 0, .int .i64 N] 162)) := by
    have h := blk_at1 (w := W.alloc (.cells #[.int .i64 nm, .bool mp, .int .i64 x2, .int .i64 fs, .int .i64 cnt, .int .i64 en, .int .i64 gw, .int .i64 gh, .int .i64 d, .int .i64 a, .bool lf, .bool tp] 55)) (o := (.cells #[.int .i64 0, .int .i64 0, .int .i64 0] 29)) (o' := (.cells #[.pointer (some ⟨c, 0, none⟩), .int .i64 nm, .bool mp, .int .i64 x2, .int .i64 fs, .int .i64 cnt, .int .i64 en, .int .i64 gw, .int .i64 gh, .int .i64 d, .int .i64 a, .bool lf, .bool tp, .pointer pq, .pointer (some ⟨r, 0, none⟩), .int .i64 0, .int .i64 N] 162))
    rw [size_alloc] at h
    exact h
  obtain ⟨hb, hhb⟩ : ∃ q, W.heap.size + 1 = q := ⟨_, rfl⟩
  rw [hhb] at F0 X0 ⊢
  obtain ⟨pb, hpb⟩ : ∃ q, hb + 1 = q := ⟨_, rfl⟩
  rw [hpb] at X0 ⊢
  generalize (((W.alloc (.cells #[.int .i64 nm, .bool mp, .int .i64 x2, .int .i64 fs, .int .i64 cnt, .int .i64 en, .int .i64 gw, .int .i64 gh, .int .i64 d, .int .i64 a, .bool lf, .bool tp] 55)).alloc (.cells #[.int .i64 0, .int .i64 0, .int .i64 0] 29)).alloc (.cells #[.pointer (some ⟨c, 0, none⟩), .int .i64 nm, .bool mp, .int .i64 x2, .int .i64 fs, .int .i64 cnt, .int .i64 en, .int .i64 gw, .int .i64 gh, .int .i64 d, .int .i64 a, .bool lf, .bool tp, .pointer pq, .pointer (some ⟨r, 0, none⟩), .int .i64 0, .int .i64 N] 162)) = w3 at g3 F0 X0 ⊢
  have HH := Lib.hid (show W.heap.size ≤ hb ∧ hb < pb from by omega)
  have HF := Lib.hid F0
  have HG3 := Lib.hid g3
  have HX := Lib.hid X0
  have HBS := Lib.hid (HB.out.bs (w := w3) (by omega) (blk_lt X0))
  have HI := Lib.hid (show RS w3 pb c l r cb g nm x2 fs cnt en gw gh d a mp lf tp (.pointer pq) P C s x 0 a0 0 N [] w3 from ⟨by rw [stp_0]; exact HS.out.1.grown g3, HS.out.2.1.grown g3 (by simp) (by simp) (by simp), X0, HP.out _ _ HS.out.2.2 (fun i hi _ => g3.block i (Nat.lt_of_lt_of_le hi HB.out.mw) (by simp)), Tn.refl _ _⟩)
  clear hhb hpb g3
  refine (KP.out _).mono ?_
  rintro e u1 ⟨rfl, rfl⟩
  cases pk with
  | true =>
    clear KR
    have KKi := Lib.hid (KK.out w3 pb (by have := HH.out; omega) HBS.out HI.out)
    go_wp2_with fail
    refine KKi.out.mono ?_
    rintro e u6 h6
    have hk := HF.out.turned h6.1 (by have := HB.out.cw; have := HB.out.lw; have := HB.out.gw; have := HH.out; simp; omega)
    have r0 := hk.c0
    have r1 := hk.c1
    have r2 := hk.c2
    have rf0 := hk.free 0
    have rf1 := hk.free 1
    have rf2 := hk.free 2
    have rl := hk.lt
    have H6 := Lib.hid h6
    have HK6 := Lib.hid hk
    have hz : allZ KD PL sz s true N a0 = packs KD PL sz s N ⟨0, 0, a0, [], 0⟩ N := if_pos rfl
    rw [hz] at HQ
    clear F0 X0 hz hk
    obtain ⟨_, _, ⟨_, rfl, _⟩ | ⟨kk, bb, _, _, _, _, rfl, _⟩⟩ := h6
    · unfold okT
      go_wp2
      have t3 : Tn u6 (((u6.setCell ⟨hb, 0, none⟩ (.int .i64 0)).setCell ⟨hb, 1, none⟩ (.int .i64 0)).setCell ⟨hb, 2, none⟩ (.int .i64 0)) [hb] := (((Tn.refl u6 [hb]).st (by simp)).st (by simp)).st (by simp)
      refine bodyPost_ret (v := okT) (by unfold okT; simp only [results, Tryz.results57]; go_simp) rfl ?_
      rw [← HQ.out]
      exact ZP.of HB.out HP.out H6.out HG3.out (by have := HH.out; omega) HH.out.1 t3
    · unfold flT
      go_wp2
      have t3 : Tn u6 (((u6.setCell ⟨hb, 0, none⟩ (.int .i64 kk)).setCell ⟨hb, 1, none⟩ (.int .i64 2)).setCell ⟨hb, 2, none⟩ (.int .i64 bb)) [hb] := (((Tn.refl u6 [hb]).st (by simp)).st (by simp)).st (by simp)
      refine bodyPost_ret (v := flT kk bb) (by unfold flT; simp only [results, Tryz.results57]; go_simp) rfl ?_
      rw [← HQ.out]
      exact ZP.of HB.out HP.out H6.out HG3.out (by have := HH.out; omega) HH.out.1 t3
  | false =>
    clear KK
    go_wp2_with fail
    have hz : allZ KD PL sz s false N a0 = (pixs KD PL sz 1 ⟨0, 0, a0, [], 0⟩ N) := if_neg Bool.false_ne_true
    rw [hz] at HQ
    clear hz
    have HG0 := Lib.hid (fun i => pixs_len (KD := KD) (PL := PL) (sz := sz) 1 ⟨0, 0, a0, [], 0⟩ i)
    obtain ⟨z0, hz0⟩ : ∃ z : PZ, (⟨0, 0, a0, [], 0⟩ : PZ) = z := ⟨_, rfl⟩
    have HZ0 := Lib.hid (show z0.f = 0 ∧ z0.l.length = 0 ∧ RS w3 pb c l r cb g nm x2 fs cnt en gw gh d a mp lf tp (.pointer pq) P C s x 0 z0.a z0.n N z0.l w3 from by rw [← hz0]; exact ⟨rfl, rfl, HI.out⟩)
    rw [hz0] at HQ HG HG0
    clear F0 X0 hz0 HI KP HX
    go_loopg [] N (fun q wx => ∃ i k0 : Nat, (pixs KD PL sz 1 z0 i).f = 0 ∧ N - i = k0 ∧ k0 = q ∧ i ≤ N ∧ RS w3 pb c l r cb g nm x2 fs cnt en gw gh d a mp lf tp (.pointer pq) P C s x 0 (pixs KD PL sz 1 z0 i).a (pixs KD PL sz 1 z0 i).n N (pixs KD PL sz 1 z0 i).l wx ∧ Fl hb 0 0 0 wx)
    case atStart => exact ⟨0, N, HZ0.out.1, rfl, rfl, Nat.zero_le _, HZ0.out.2.2, HF.out⟩
    case round =>
      obtain ⟨i, k0, hf, hk0, rfl, hiN, I, F⟩ := hrel
      have hl := HG0.out i hf
      obtain ⟨z, hz⟩ : ∃ z, pixs KD PL sz 1 z0 i = z := ⟨_, rfl⟩
      rw [hz] at hf I hl
      rw [HZ0.out.2.1] at hl
      have hl1 : z.l.length = i := by omega
      have hza : z.a ≤ s.size := by have h := (HG.out i).1; rw [hz] at h; exact h hf
      have px := I.px
      rw [hl1, hk0] at px
      have p_16 : wr.cell? ⟨pb, 16, none⟩ = some (.int .i64 k0) := blk_cell px 16
      have bl := blk_lt px
      have r0 := F.c0
      have r1 := F.c1
      have r2 := F.c2
      have rf0 := F.free 0
      have rf1 := F.free 1
      have rf2 := F.free 2
      have rl := F.lt
      have HI := Lib.hid I
      have HF1 := Lib.hid F
      have HE := Lib.hid (And.intro hz (And.intro hf (And.intro hza (And.intro hl1 hk0))))
      clear hz hf hza hl hl1 hk0 I F px
      by_cases h0 : 0 < k0
      · have d1 : (0 : Int) < (k0 : Int) := by omega
        have KRi := Lib.hid (KR.out wr pb (by have := HH.out; omega) z (HBS.out.grow HI.out.tn.size) HE.out.2.1 HE.out.2.2.1 (by have := HE.out.2.2.2; omega) HI.out.re)
        clear rf0 rf1 rf2 r0 r1 r2
        go_wp2_with fail
        refine KRi.out.mono ?_
        rintro e u6 h6
        have hk := HF1.out.turned h6.1 (by have := HB.out.cw; have := HB.out.lw; have := HB.out.gw; have := HH.out; simp; omega)
        have HK6 := Lib.hid hk
        clear p_16 bl rl
        obtain ⟨t6, p6, ⟨hf6, rfl, J6⟩ | ⟨kk, bb, q6, y6, R6, E6, rfl, rd6, ro6⟩⟩ := h6
        · have H6 := Lib.hid (And.intro hf6 (J6.with HI.out.tn))
          have rl := hk.lt
          clear t6 p6 hf6 J6 hk
          unfold okT
          go_wp2_with fail
          have HS6 := Lib.hid (pixs_succ (KD := KD) (PL := PL) (sz := sz) 1 z0 i)
          have ga := World.grownBy_alloc u6 (.cells #[.int .i64 0, .int .i64 0, .int .i64 0] 29) none
          go_roundg (N - (i + 1))
          case measure => have := HE.out.2.2.2; omega
          case rel => exact ⟨i + 1, N - (i + 1), by rw [HS6.out, HE.out.1]; exact H6.out.1, rfl, rfl, by have := HE.out.2.2.2; omega, by rw [HS6.out, HE.out.1]; exact H6.out.2.step HBS.out.mw (HP5.out pb (by have := HH.out; omega)) ga, HK6.out.turned (Tn.gb ga (S := []) (by simp)) (by simp)⟩
        · have hkn := E6.kne
          have r0 := hk.c0
          have r1 := hk.c1
          have r2 := hk.c2
          have rf0 := hk.free 0
          have rf1 := hk.free 1
          have rf2 := hk.free 2
          have rl := hk.lt
          have H6 := Lib.hid (And.intro t6 (And.intro p6 (And.intro E6 (And.intro rd6 ro6))))
          clear t6 p6 E6 rd6 ro6 hk
          unfold flT
          go_wp2
          have e1 : pixs KD PL sz 1 z0 (i + 1) = pix KD PL sz 1 z := by rw [pixs_succ, HE.out.1]
          have hi1 : i + 1 ≤ N := by have := HE.out.2.2.2; omega
          have h2 : (pix KD PL sz 1 z).n ≤ (pixs KD PL sz 1 z0 N).n := by
            have h := pixs_n (KD := KD) (PL := PL) (sz := sz) 1 z0 hi1
            rwa [e1] at h
          have h1 : (pix KD PL sz 1 z).f ≠ 0 → pixs KD PL sz 1 z0 N = pix KD PL sz 1 z := by
            intro h
            have h3 := pixs_stay (KD := KD) (PL := PL) (sz := sz) 1 z0 hi1 (by rw [e1]; exact h)
            rwa [e1] at h3
          have hE : EB s x (pixs KD PL sz 1 z0 N).f (pixs KD PL sz 1 z0 N).p (pixs KD PL sz 1 z0 N).n kk bb q6 y6 :=
            EB.lift (m := 0) (by rw [stp_0]; exact H6.out.2.2.1) (fun h => by rw [h1 h]; exact ⟨rfl, rfl, (Nat.zero_add _).symm⟩) (by rw [Nat.zero_add]; exact h2)
          have RPn : RP w3 pb c l r cb g nm x2 fs cnt en gw gh d a mp lf tp (.pointer pq) P C s x N (pixs KD PL sz 1 z0 N) (.returned (flT kk bb)) u6 := ⟨HI.out.tn.trans H6.out.1, H6.out.2.1, .inr ⟨kk, bb, q6, y6, R6, hE, rfl, H6.out.2.2.2.1, H6.out.2.2.2.2⟩⟩
          have t3 : Tn u6 ((((u6.setCell ⟨hb, 0, none⟩ (.int .i64 kk)).setCell ⟨hb, 1, none⟩ (.int .i64 2)).setCell ⟨hb, 2, none⟩ (.int .i64 bb)).alloc (.cells #[.int .i64 kk, .int .i64 2, .int .i64 bb] 29)) [hb] := ((((Tn.refl u6 [hb]).st (by simp)).st (by simp)).st (by simp)).trans (Tn.gb (World.grownBy_alloc _ _ none) (by simp))
          refine bodyPost_ret (v := flT kk bb) (by unfold flT; simp only [results, Tryz.results57]; go_simp) rfl ?_
          rw [← HQ.out]
          exact ZP.of HB.out HP.out RPn HG3.out (by have := HH.out; omega) HH.out.1 t3
      · have d1 : ¬ (0 : Int) < (k0 : Int) := by omega
        go_wp2
        have hiN1 : i = N := by have := HE.out.2.2.2; omega
        have RPn : RP w3 pb c l r cb g nm x2 fs cnt en gw gh d a mp lf tp (.pointer pq) P C s x N (pixs KD PL sz 1 z0 N) (.returned okT) wr := ⟨HI.out.tn, HI.out.pp, .inl ⟨by rw [← hiN1, HE.out.1]; exact HE.out.2.1, rfl, by rw [← hiN1, HE.out.1, hiN1]; exact HI.out⟩⟩
        have t3 : Tn wr ((((wr).setCell ⟨hb, 0, none⟩ (.int .i64 0)).setCell ⟨hb, 1, none⟩ (.int .i64 0)).setCell ⟨hb, 2, none⟩ (.int .i64 0)) [hb] := (((Tn.refl wr [hb]).st (by simp)).st (by simp)).st (by simp)
        refine bodyPost_ret (v := okT) (by unfold okT; simp only [results, Tryz.results57]; go_simp) rfl ?_
        rw [← HQ.out]
        exact ZP.of HB.out HP.out RPn HG3.out (by have := HH.out; omega) HH.out.1 t3

end Go.Proofs.YtnieeckdldpebaaGreat.Tr
