/- Layer 29: the program's Pack. (Written by gen/sp1.py.) -/
import Derived.Test.YteimfjlogjdakaaPc1
import Derived.Test.YteimfjlogjdakaaBx2
import Derived.Test.YteimfjlogjdakaaPc2
import Derived.Test.YteimfjlogjdakaaShelf
namespace Go.Proofs.Yteimfjlogjdakaa.Sp
open Go.ChangeShapes Go.WideShapes Go.ChangeAt Go.RowKit Go.Shelf
open Go.Proofs.Yteimfjlogjdakaa.Le Go.Proofs.Yteimfjlogjdakaa.Rf Go.Proofs.Yteimfjlogjdakaa.St Go.Proofs.Yteimfjlogjdakaa.Bd Go.Proofs.Yteimfjlogjdakaa.Pc
set_option linter.unusedVariables false
attribute [local go_sem] Oper.semAt_some

/-- The packet of k bytes v. -/
def fS (k : Nat) (v : UInt8) : List UInt8 := if 3 ≤ k ∨ (1 < k ∧ v.toNat = 128) then [128, UInt8.ofNat (k - 1), v] else if v.toNat = 128 then [128, 0] else List.replicate k v
theorem fS_len (k : Nat) (v : UInt8) (h : 1 ≤ k) : (fS k v).length ≤ 2 * k := by
  unfold fS
  split
  · simp; omega
  · split
    · simp; omega
    · simp; omega
theorem rep_one (v : UInt8) (k : Nat) : Lib.repeatL [v] k = List.replicate k v := by
  induction k with
  | zero => rfl
  | succ k ih => show v :: Lib.repeatL [v] k = _; rw [ih]; rfl

set_option maxRecDepth 100000 in
set_option maxHeartbeats 4000000 in
theorem pack_calls (s : ByteArray) (hsz : s.size ≤ 400000) (W : World) :
    Calls Try.prog 9 #[.string s] W fun e w' => ∃ N, SN s 256 N ∧ e = .returned (.string ⟨(pu fS s 256 N).toArray⟩) ∧ W.grownBy w' none := by
  obtain ⟨N, hN⟩ := sn_ex s 256 (by decide)
  have HN := Lib.hid hN
  have KA := Lib.hid (fun u => all_calls s 256 u)
  have HSZ := Lib.hid hsz
  have HLEN := Lib.hid (fun j hj => pu_len (f := fS) (by decide) hN (fun k v h1 _ => fS_len k v h1) j hj)
  have HPS := Lib.hid (fun j => ps_le s 256 (by decide) j)
  clear hN hsz
  refine (callsIn_wide (n := 8)).1 ?_
  refine callsIn_of_wp_marks Try.func9 rfl trivial ?_ rfl
  simp only [Try.ntmps9, List.size_toArray, List.length_cons, List.length_nil, Nat.reduceAdd, Nat.reduceSub, Array.replicate_succ, Array.replicate_zero, List.push_toArray, List.append_toArray, List.nil_append, List.cons_append]
  gi_wp2_with fail
  refine ⟨trivial, (callsIn_wide.2 (KA.out _)).mono ?_⟩
  rintro e w1 ⟨rfl, hw1⟩
  have g1 : W.grownBy w1 none := by
    rw [hw1]
    exact gb_trans (gb_trans (World.grownBy_alloc _ _ _) (World.grownBy_alloc _ _ _)) (World.grownBy_alloc _ _ _)
  have hsz1 : w1.heap.size = W.heap.size + 3 := by rw [hw1, size_alloc, size_alloc, size_alloc]
  have e0 : w1.heap[W.heap.size]? = some (.cells #[.pointer none, .slice none 0 0] 28 (0, 0)) := by rw [hw1]; exact blk_al (blk_al blk_at _) _
  have e1 : w1.heap[W.heap.size + 1]? = some (.cells #[.string s] 9 (0, 0)) := by rw [hw1]; have h := blk_al (blk_at (w := W.alloc (.cells #[.pointer none, .slice none 0 0] 28)) (o := .cells #[.string s] 9)) (.cells #[.int .i64 256] 3); rwa [size_alloc] at h
  have e2 : w1.heap[W.heap.size + 1 + 1]? = some (.cells #[.int .i64 256] 3 (0, 0)) := by rw [hw1]; have h := blk_at (w := (W.alloc (.cells #[.pointer none, .slice none 0 0] 28)).alloc (.cells #[.string s] 9)) (o := .cells #[.int .i64 256] 3); rwa [size_alloc, size_alloc] at h
  rw [size_alloc]
  clear hw1
  obtain ⟨b, hb⟩ : ∃ b, W.heap.size = b := ⟨_, rfl⟩
  rw [hb] at hsz1 e0 e1 e2 ⊢
  have HB := Lib.hid hb
  have HG1 := Lib.hid g1
  have HE1 := Lib.hid e1
  have HE2 := Lib.hid e2
  have HE0 := Lib.hid e0
  have HSZ1 := Lib.hid hsz1
  clear hb g1 e0 e1 e2 hsz1
  gi_wp2_with fail
  refine range_law (gf := 17) (lb := #[.pointer (some ⟨b + 1, 0, none⟩), .pointer (some ⟨b + 1 + 1, 0, none⟩)]) rfl (enters_of Try.func17 (by kernel_rfl) rfl)
    (encs := encsS s 256) (N := N) (B := b + 1) (ks := [b + 1, b + 1 + 1]) (u := 5) (fun k hk => by have := HSZ1.out; simp at hk; omega) (by have := HSZ1.out; omega) (fun _ => rfl)
    (all_seq 7 (by decide) s 256 N (b + 1) (b + 1 + 1) (by decide) (by decide) (by have := HSZ.out; omega) HN.out w1 HE1.out HE2.out)
    (IP W b (b + 3) fS s 256) (by rw [HSZ1.out]; exact IP.abid (by have := HB.out; omega) (by omega) (by omega)) ⟨Oz.start HE0.out (by omega) (by rw [HSZ1.out]; exact Nat.le_refl _), HG1.out⟩
    (fun j => { tmps := #[.string s, undef, .string ⟨#[]⟩, .pointer (some ⟨b, 0, none⟩), .int .i64 ((sk s 256 (ps s 256 j) : Nat) : Int), .int .u8 ((bu s (ps s 256 j)).toNat : Int), .string s, .func (.func 17) #[] #[.pointer (some ⟨b + 1, 0, none⟩), .pointer (some ⟨b + 1 + 1, 0, none⟩)], .int .i64 ((sk s 256 (ps s 256 j) : Nat) : Int), .int .u8 ((bu s (ps s 256 j)).toNat : Int), undef, undef, undef, undef, undef, undef, undef, undef, undef, undef, undef, undef, undef, undef, undef, undef, undef, undef, undef, undef, undef, undef, undef, undef, undef, undef, undef, undef, undef], defers := [] }) ?assign ?body ?done
  case assign =>
    intro l j W' K hK
    unfold encsS
    gi_wp2
    exact hK
  case body =>
    intro l j Wr hI hrk hj
    obtain ⟨i, hi⟩ : ∃ i, ps s 256 j = i := ⟨_, rfl⟩
    have hil : i < s.size := by rw [← hi]; exact HN.out.lt j hj
    obtain ⟨k, hk⟩ := sk_ex s 256 i hil (by decide)
    have hlen := HLEN.out j (by omega)
    have hps := HPS.out j
    have hpu := pu_next (f := fS) hi hk
    unfold IP at hI
    obtain ⟨bs, hbs⟩ : ∃ bs, pu fS s 256 j = bs := ⟨_, rfl⟩
    obtain ⟨c, hc⟩ : ∃ c, bu s i = c := ⟨_, rfl⟩
    rw [hbs] at hpu hlen hI
    rw [hc] at hpu
    rw [hi, sk_is hk, hc]
    rw [hi] at hlen hps
    have hl2 : bs.length ≤ 900000 := by have := HSZ.out; omega
    have hk256 := hk.km
    have hk1 := hk.k1
    have c256 := u_lt c
    have HPU := Lib.hid hpu
    have HI := Lib.hid hI
    have HRK := Lib.hid hrk
    have HL2 := Lib.hid hl2
    have HBW := Lib.hid (show W.heap.size ≤ b by have := HB.out; omega)
    have HOB := hI.1.ex
    have hbl : b < Wr.heap.size := by obtain ⟨p, L, _, h, _⟩ := HOB; exact blk_lt h.blk
    have HBL := Lib.hid hbl
    clear hpu hI hrk hl2 hlen hps hi hil hk hbs hc hj HOB hbl
    by_cases h3k : 3 ≤ k
    · have d1 : (3 : Int) ≤ (k : Int) := by omega
      have HF := Lib.hid (show fS k c = [128, UInt8.ofNat (k - 1), c] by unfold fS; rw [if_pos (by omega)])
      obtain ⟨m, hm⟩ : ∃ m, UInt8.ofNat (k - 1) = m := ⟨_, rfl⟩
      have hmn : (m.toNat : Int) = (k : Int) - 1 := by rw [← hm, ofNat_nat _ (by omega)]; omega
      have m256 := u_lt m
      have w1m : IntKind.i64.wrap ((k : Int) - 1) = (m.toNat : Int) := by rw [IntWalk.i64_in _ (by omega)]; omega
      have w2m : IntKind.u8.wrap (m.toNat : Int) = (m.toNat : Int) := IntWalk.u8_in _ (by omega)
      have w3m : (m.toNat : Int) % 256 = (m.toNat : Int) := by omega
      rw [hm] at HF
      clear hm hmn
      have hq := blk_at (w := Wr) (o := .cells #[.int .u8 128, .int .u8 (m.toNat : Int), .int .u8 (c.toNat : Int)] 5)
      have hbc : (Lib.byteCells [128, m, c]).toArray = #[.int .u8 128, .int .u8 (m.toNat : Int), .int .u8 (c.toNat : Int)] := by rfl
      have hqb : Wr.heap.size ≠ b := by have := HBL.out; omega
      have hI2 := HI.out.1.kept (World.grownBy_alloc Wr (.cells #[.int .u8 128, .int .u8 (m.toNat : Int), .int .u8 (c.toNat : Int)] 5) none) (fun k e => by cases e)
      have K1 := Lib.hid (write_z b (b + 3) Wr.heap.size 3 bs [128, m, c] _ hI2 rfl (by decide) (by rw [hbc]; exact hq) hqb (by have := HL2.out; omega))
      have HY0 := Lib.hid (Fy.alloc b Wr (.cells #[.int .u8 128, .int .u8 (m.toNat : Int), .int .u8 (c.toNat : Int)] 5))
      have HG0 := Lib.hid (And.intro hI2 (gb_trans HI.out.2 (World.grownBy_alloc Wr (.cells #[.int .u8 128, .int .u8 (m.toNat : Int), .int .u8 (c.toNat : Int)] 5) none)))
      clear hq hbc hqb hI2
      gi_wp2_with fail
      refine ⟨trivial, (CallsIn.inRound l (callsIn_wide.2 K1.out)).mono ?_⟩
      rintro e u2 ⟨rfl, hz2, f2, y2⟩
      have HX2 := Lib.hid (And.intro hz2 (And.intro f2 y2))
      clear hz2 f2 y2 K1
      gi_wp2
      refine ⟨keeps_fy (HY0.out.trans HX2.out.2.2) HI.out.1, kq_fy (HY0.out.trans HX2.out.2.2) HRK.out (by simp; omega), ?_⟩
      unfold IP
      rw [HPU.out, HF.out]
      exact IP.step HG0.out HBW.out HX2.out.1 HX2.out.2.1
    · have d1 : ¬ (3 : Int) ≤ (k : Int) := by omega
      by_cases hc8 : c.toNat = 128
      · have d3 : ((c.toNat : Int) == 128) = true := by rw [beq_iff_eq]; omega
        by_cases h1k : 1 < k
        · have d2 : (1 : Int) < (k : Int) := by omega
          have HF := Lib.hid (show fS k c = [128, UInt8.ofNat (k - 1), c] by unfold fS; rw [if_pos (by omega)])
          obtain ⟨m, hm⟩ : ∃ m, UInt8.ofNat (k - 1) = m := ⟨_, rfl⟩
          have hmn : (m.toNat : Int) = (k : Int) - 1 := by rw [← hm, ofNat_nat _ (by omega)]; omega
          have m256 := u_lt m
          have w1m : IntKind.i64.wrap ((k : Int) - 1) = (m.toNat : Int) := by rw [IntWalk.i64_in _ (by omega)]; omega
          have w2m : IntKind.u8.wrap (m.toNat : Int) = (m.toNat : Int) := IntWalk.u8_in _ (by omega)
          have w3m : (m.toNat : Int) % 256 = (m.toNat : Int) := by omega
          rw [hm] at HF
          clear hm hmn
          clear hc8
          have hq := blk_at (w := Wr) (o := .cells #[.int .u8 128, .int .u8 (m.toNat : Int), .int .u8 (c.toNat : Int)] 5)
          have hbc : (Lib.byteCells [128, m, c]).toArray = #[.int .u8 128, .int .u8 (m.toNat : Int), .int .u8 (c.toNat : Int)] := by rfl
          have hqb : Wr.heap.size ≠ b := by have := HBL.out; omega
          have hI2 := HI.out.1.kept (World.grownBy_alloc Wr (.cells #[.int .u8 128, .int .u8 (m.toNat : Int), .int .u8 (c.toNat : Int)] 5) none) (fun k e => by cases e)
          have K1 := Lib.hid (write_z b (b + 3) Wr.heap.size 3 bs [128, m, c] _ hI2 rfl (by decide) (by rw [hbc]; exact hq) hqb (by have := HL2.out; omega))
          have HY0 := Lib.hid (Fy.alloc b Wr (.cells #[.int .u8 128, .int .u8 (m.toNat : Int), .int .u8 (c.toNat : Int)] 5))
          have HG0 := Lib.hid (And.intro hI2 (gb_trans HI.out.2 (World.grownBy_alloc Wr (.cells #[.int .u8 128, .int .u8 (m.toNat : Int), .int .u8 (c.toNat : Int)] 5) none)))
          clear hq hbc hqb hI2
          gi_wp2_with fail
          refine ⟨trivial, (CallsIn.inRound l (callsIn_wide.2 K1.out)).mono ?_⟩
          rintro e u2 ⟨rfl, hz2, f2, y2⟩
          have HX2 := Lib.hid (And.intro hz2 (And.intro f2 y2))
          clear hz2 f2 y2 K1
          gi_wp2
          refine ⟨keeps_fy (HY0.out.trans HX2.out.2.2) HI.out.1, kq_fy (HY0.out.trans HX2.out.2.2) HRK.out (by simp; omega), ?_⟩
          unfold IP
          rw [HPU.out, HF.out]
          exact IP.step HG0.out HBW.out HX2.out.1 HX2.out.2.1
        · have d2 : ¬ (1 : Int) < (k : Int) := by omega
          have HF := Lib.hid (show fS k c = [128, 0] by unfold fS; rw [if_neg (by omega), if_pos hc8])
          clear hc8
          have hq := blk_at (w := Wr) (o := .cells #[.int .u8 128, .int .u8 0] 5)
          have hbc : (Lib.byteCells [128, 0]).toArray = #[.int .u8 128, .int .u8 0] := by rfl
          have hqb : Wr.heap.size ≠ b := by have := HBL.out; omega
          have hI2 := HI.out.1.kept (World.grownBy_alloc Wr (.cells #[.int .u8 128, .int .u8 0] 5) none) (fun k e => by cases e)
          have K1 := Lib.hid (write_z b (b + 3) Wr.heap.size 2 bs [128, 0] _ hI2 rfl (by decide) (by rw [hbc]; exact hq) hqb (by have := HL2.out; omega))
          have HY0 := Lib.hid (Fy.alloc b Wr (.cells #[.int .u8 128, .int .u8 0] 5))
          have HG0 := Lib.hid (And.intro hI2 (gb_trans HI.out.2 (World.grownBy_alloc Wr (.cells #[.int .u8 128, .int .u8 0] 5) none)))
          clear hq hbc hqb hI2
          gi_wp2_with fail
          refine ⟨trivial, (CallsIn.inRound l (callsIn_wide.2 K1.out)).mono ?_⟩
          rintro e u2 ⟨rfl, hz2, f2, y2⟩
          have HX2 := Lib.hid (And.intro hz2 (And.intro f2 y2))
          clear hz2 f2 y2 K1
          gi_wp2
          refine ⟨keeps_fy (HY0.out.trans HX2.out.2.2) HI.out.1, kq_fy (HY0.out.trans HX2.out.2.2) HRK.out (by simp; omega), ?_⟩
          unfold IP
          rw [HPU.out, HF.out]
          exact IP.step HG0.out HBW.out HX2.out.1 HX2.out.2.1
      · have d3 : ((c.toNat : Int) == 128) = false := by rw [beq_eq_false_iff_ne]; omega
        by_cases h1k : 1 < k
        · have d2 : (1 : Int) < (k : Int) := by omega
          have HF := Lib.hid (show fS k c = List.replicate k c by unfold fS; rw [if_neg (by omega), if_neg hc8])
          have hq := blk_at (w := Wr) (o := .cells #[.int .u8 (c.toNat : Int)] 5)
          have hcv := conv_one c (Wr.alloc (.cells #[.int .u8 (c.toNat : Int)] 5)) Wr.heap.size hq
          have hI2 := HI.out.1.kept (World.grownBy_alloc Wr (.cells #[.int .u8 (c.toNat : Int)] 5) none) (fun k e => by cases e)
          have HG0 := Lib.hid (And.intro hI2 (gb_trans HI.out.2 (World.grownBy_alloc Wr (.cells #[.int .u8 (c.toNat : Int)] 5) none)))
          have HY0 := Lib.hid (Fy.alloc b Wr (.cells #[.int .u8 (c.toNat : Int)] 5))
          have KR := Lib.hid (Try.strings_Repeat ⟨#[c]⟩ k (Wr.alloc (.cells #[.int .u8 (c.toNat : Int)] 5)) (by omega) (by show 1 * k ≤ _; omega))
          obtain ⟨z, hz⟩ : ∃ z, (⟨(Lib.repeatL (⟨#[c]⟩ : ByteArray).data.toList k).toArray⟩ : ByteArray) = z := ⟨_, rfl⟩
          rw [hz] at KR
          have hzd : z.data.toList = List.replicate k c := by rw [← hz]; show (Lib.repeatL [c] k).toArray.toList = _; rw [rep_one]
          have hzs : z.size = k := by rw [Lib.size_eq, hzd, List.length_replicate]
          have HZ := Lib.hid (And.intro hzd hzs)
          obtain ⟨y, hy⟩ : ∃ y, (⟨#[c]⟩ : ByteArray) = y := ⟨_, rfl⟩
          rw [hy] at KR hcv
          clear hq hz hzd hzs hI2 hy
          gi_wp2_with fail
          refine ⟨trivial, (CallsIn.inRound l (callsIn_wide.2 KR.out)).mono ?_⟩
          rintro e u1 ⟨rfl, hbl1⟩
          have g1 : (Wr.alloc (.cells #[.int .u8 (c.toNat : Int)] 5)).grownBy u1 none := ⟨hbl1.os, hbl1.tape, hbl1.output, hbl1.size, fun k hk _ => hbl1.block k hk⟩
          have HI1 := Lib.hid (And.intro (HG0.out.1.kept g1 (fun k e => by cases e)) (gb_trans HG0.out.2 g1))
          have HY1 := Lib.hid (HY0.out.trans (Fy.row (b := b) g1 (fun k e => by cases e)))
          have K1 := Lib.hid (text_z b (b + 3) bs z u1 HI1.out.1 (by have := HZ.out.2; omega) (by have := HZ.out.2; have := HL2.out; omega))
          clear hbl1 g1 KR hcv
          gi_wp2_with fail
          refine ⟨trivial, (CallsIn.inRound l (callsIn_wide.2 K1.out)).mono ?_⟩
          rintro e u2 ⟨rfl, hz2, f2, y2⟩
          have HX2 := Lib.hid (And.intro hz2 (And.intro f2 y2))
          clear hz2 f2 y2 K1
          gi_wp2
          refine ⟨keeps_fy (HY1.out.trans HX2.out.2.2) HI.out.1, kq_fy (HY1.out.trans HX2.out.2.2) HRK.out (by simp; omega), ?_⟩
          unfold IP
          rw [HPU.out, HF.out, ← HZ.out.1]
          exact IP.step HI1.out HBW.out HX2.out.1 HX2.out.2.1
        · have d2 : ¬ (1 : Int) < (k : Int) := by omega
          have HF := Lib.hid (show fS k c = List.replicate k c by unfold fS; rw [if_neg (by omega), if_neg hc8])
          have hq := blk_at (w := Wr) (o := .cells #[.int .u8 (c.toNat : Int)] 5)
          have hcv := conv_one c (Wr.alloc (.cells #[.int .u8 (c.toNat : Int)] 5)) Wr.heap.size hq
          have hI2 := HI.out.1.kept (World.grownBy_alloc Wr (.cells #[.int .u8 (c.toNat : Int)] 5) none) (fun k e => by cases e)
          have HG0 := Lib.hid (And.intro hI2 (gb_trans HI.out.2 (World.grownBy_alloc Wr (.cells #[.int .u8 (c.toNat : Int)] 5) none)))
          have HY0 := Lib.hid (Fy.alloc b Wr (.cells #[.int .u8 (c.toNat : Int)] 5))
          have KR := Lib.hid (Try.strings_Repeat ⟨#[c]⟩ k (Wr.alloc (.cells #[.int .u8 (c.toNat : Int)] 5)) (by omega) (by show 1 * k ≤ _; omega))
          obtain ⟨z, hz⟩ : ∃ z, (⟨(Lib.repeatL (⟨#[c]⟩ : ByteArray).data.toList k).toArray⟩ : ByteArray) = z := ⟨_, rfl⟩
          rw [hz] at KR
          have hzd : z.data.toList = List.replicate k c := by rw [← hz]; show (Lib.repeatL [c] k).toArray.toList = _; rw [rep_one]
          have hzs : z.size = k := by rw [Lib.size_eq, hzd, List.length_replicate]
          have HZ := Lib.hid (And.intro hzd hzs)
          obtain ⟨y, hy⟩ : ∃ y, (⟨#[c]⟩ : ByteArray) = y := ⟨_, rfl⟩
          rw [hy] at KR hcv
          clear hq hz hzd hzs hI2 hy
          gi_wp2_with fail
          refine ⟨trivial, (CallsIn.inRound l (callsIn_wide.2 KR.out)).mono ?_⟩
          rintro e u1 ⟨rfl, hbl1⟩
          have g1 : (Wr.alloc (.cells #[.int .u8 (c.toNat : Int)] 5)).grownBy u1 none := ⟨hbl1.os, hbl1.tape, hbl1.output, hbl1.size, fun k hk _ => hbl1.block k hk⟩
          have HI1 := Lib.hid (And.intro (HG0.out.1.kept g1 (fun k e => by cases e)) (gb_trans HG0.out.2 g1))
          have HY1 := Lib.hid (HY0.out.trans (Fy.row (b := b) g1 (fun k e => by cases e)))
          have K1 := Lib.hid (text_z b (b + 3) bs z u1 HI1.out.1 (by have := HZ.out.2; omega) (by have := HZ.out.2; have := HL2.out; omega))
          clear hbl1 g1 KR hcv
          gi_wp2_with fail
          refine ⟨trivial, (CallsIn.inRound l (callsIn_wide.2 K1.out)).mono ?_⟩
          rintro e u2 ⟨rfl, hz2, f2, y2⟩
          have HX2 := Lib.hid (And.intro hz2 (And.intro f2 y2))
          clear hz2 f2 y2 K1
          gi_wp2
          refine ⟨keeps_fy (HY1.out.trans HX2.out.2.2) HI.out.1, kq_fy (HY1.out.trans HX2.out.2.2) HRK.out (by simp; omega), ?_⟩
          unfold IP
          rw [HPU.out, HF.out, ← HZ.out.1]
          exact IP.step HI1.out HBW.out HX2.out.1 HX2.out.2.1
  case done =>
    intro D W' hD hI hK
    unfold IP at hI
    have hl := HLEN.out N (Nat.le_refl _)
    have hp := HPS.out N
    have KS := Lib.hid (string_z b (b + 3) _ W W' hI.1 hI.2 (by have := HB.out; omega) (by have := HSZ.out; omega))
    have HK := Lib.hid hK
    clear hI hK hl hp
    gi_wp2_with fail
    refine ⟨trivial, (callsIn_wide.2 KS.out).mono ?_⟩
    rintro e w2 ⟨rfl, g2, ko⟩
    have HK2 := Lib.hid (ko.same D _ HK.out rfl)
    have HG2 := Lib.hid (show W.grownBy (w2.putObj D (.deferred none)) none from gb_own g2 (by have := HB.out; have := HSZ1.out; omega) (grownBy_putObj' _ D _))
    clear g2 ko
    gi_wp2
    refine ⟨by simp, .inl ⟨_, _, rfl, run_takeDeferred HK2.out, ?_⟩⟩
    exact ⟨_, results_tmp rfl _ _ _, N, HN.out, rfl, HG2.out⟩

end Go.Proofs.Yteimfjlogjdakaa.Sp
