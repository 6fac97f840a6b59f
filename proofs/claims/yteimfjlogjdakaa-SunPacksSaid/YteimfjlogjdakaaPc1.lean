/- Layer 28: the program's Pack of a row. -/
import Derived.Test.YteimfjlogjdakaaSt2
import Derived.Test.YteimfjlogjdakaaBx1
namespace Go.Proofs.Yteimfjlogjdakaa.Pc
open Go.ChangeShapes Go.WideShapes Go.ChangeAt Go.RowKit Go.Shelf
open Go.Proofs.Yteimfjlogjdakaa.Le Go.Proofs.Yteimfjlogjdakaa.Rf Go.Proofs.Yteimfjlogjdakaa.St Go.Proofs.Yteimfjlogjdakaa.Bd
set_option linter.unusedVariables false
attribute [local go_sem] Oper.semAt_some

/-- The packet of k bytes v. -/
def fP (k : Nat) (v : UInt8) : List UInt8 := (if 1 < k ∨ 192 ≤ v.toNat then [UInt8.ofNat (192 + k)] else []) ++ [v]
theorem fP_len (k : Nat) (v : UInt8) (h : 1 ≤ k) : (fP k v).length ≤ 2 * k := by
  unfold fP
  rw [List.length_append]
  split <;> simp <;> omega
theorem or_c0 (n : Nat) (hn : n < 64) : bits .or .i64 192 (n : Int) = ((192 + n : Nat) : Int) := by
  have hn2 : 192 ||| n = 192 + n := by
    have := Nat.shiftLeft_add_eq_or_of_lt (i := 6) (b := n) (by omega) 3
    rw [show (192 : Nat) = 3 <<< 6 from by rw [Nat.shiftLeft_eq], ← this, Nat.shiftLeft_eq]
  have h1 : (BitVec.ofInt 64 (n : Int)).toNat = n := by
    rw [BitVec.ofInt_natCast, BitVec.toNat_ofNat]; exact Nat.mod_eq_of_lt (by omega)
  have h2 : (BitVec.ofInt 64 (192 : Int)).toNat = 192 := by decide
  show IntKind.i64.wrap ((BitVec.ofInt 64 (192 : Int) ||| BitVec.ofInt 64 (n : Int)).toNat : Int) = _
  rw [BitVec.toNat_or, h1, h2, hn2, IntKind.wrap_i64]
  omega

/-- What is known between two rounds: the builder in block b holds what j stretches put; of what the call found nothing has turned. -/
def IP (W : World) (b B : Nat) (f : Nat → UInt8 → List UInt8) (s : ByteArray) (m : Nat) (j : Nat) (A : World) : Prop := Oz b B (pu f s m j) A ∧ W.grownBy A none
theorem IP.abid {W : World} {b B x : Nat} {f : Nat → UInt8 → List UInt8} {s : ByteArray} {m : Nat} (hW : W.heap.size ≤ x) (hxb : x ≠ b) (hxB : x < B) : Abid B x (IP W b B f s m) := by
  intro j A A' row hI g hr
  refine ⟨hI.1.kept g (fun k e => ?_), ?_⟩
  · rcases hr k e with rfl | ⟨_, o, ho, hc⟩
    · exact .inl ⟨hxb, hxB⟩
    · exact .inr ⟨o, ho, hc⟩
  · cases row with
    | none => exact gb_trans hI.2 g
    | some k =>
      refine gb_own hI.2 ?_ g
      rcases hr k rfl with rfl | ⟨h, _⟩
      · exact hW
      · omega

theorem ofNat_nat (n : Nat) (h : n < 256) : ((UInt8.ofNat n).toNat : Int) = (n : Int) := by
  rw [UInt8.toNat_ofNat']
  omega
/-- A step of the builder in a round: what it says of the round. -/
theorem IP.step {W w w' : World} {b B : Nat} {bs bs' : List UInt8} (h : Oz b B bs w ∧ W.grownBy w none) (hb : W.heap.size ≤ b) (h' : Oz b B bs' w') (f : Fr b B w w') : Oz b B bs' w' ∧ W.grownBy w' none := by
  obtain ⟨p, L, hp, hbo, _⟩ := h.1.ex
  have := hbo.lt
  exact ⟨h', f.gb h.2 hb (by omega)⟩
theorem kq_fy {ks : List Nat} {b : Nat} {w w' : World} (f : Fy b w w') (h : Rk ks 5 w) (hb : b ∉ ks) : Kq ks w w' := fun k hk => by
  obtain ⟨C, t, z, h1, h2⟩ := h k hk
  exact (f.same k _ h1 (fun e => hb (e ▸ hk)) (fun C' z' e => by cases e; exact h2 rfl)).trans h1.symm
theorem keeps_fy {b B : Nat} {bs : List UInt8} {w w' : World} (f : Fy b w w') (h : Oz b B bs w) : KeepsOthers w w' := by
  obtain ⟨C, hC⟩ := h.blk
  exact KeepsOthers.fy f hC

set_option maxRecDepth 100000 in
set_option maxHeartbeats 4000000 in
theorem pack_calls (s : ByteArray) (hsz : s.size ≤ 400000) (W : World) :
    Calls Try.prog 6 #[.string s] W fun e w' => ∃ N, SN s 63 N ∧ e = .returned (.string ⟨(pu fP s 63 N).toArray⟩) ∧ W.grownBy w' none := by
  obtain ⟨N, hN⟩ := sn_ex s 63 (by decide)
  have HN := Lib.hid hN
  have KA := Lib.hid (fun u => all_calls s 63 u)
  have HSZ := Lib.hid hsz
  have HLEN := Lib.hid (fun j hj => pu_len (f := fP) (by decide) hN (fun k v h1 _ => fP_len k v h1) j hj)
  have HPS := Lib.hid (fun j => ps_le s 63 (by decide) j)
  clear hN hsz
  refine (callsIn_wide (n := 8)).1 ?_
  refine callsIn_of_wp_marks Try.func6 rfl trivial ?_ rfl
  simp only [Try.ntmps6, List.size_toArray, List.length_cons, List.length_nil, Nat.reduceAdd, Nat.reduceSub, Array.replicate_succ, Array.replicate_zero, List.push_toArray, List.append_toArray, List.nil_append, List.cons_append]
  gi_wp2_with fail
  refine ⟨trivial, (callsIn_wide.2 (KA.out _)).mono ?_⟩
  rintro e w1 ⟨rfl, hw1⟩
  have g1 : W.grownBy w1 none := by
    rw [hw1]
    exact gb_trans (gb_trans (World.grownBy_alloc _ _ _) (World.grownBy_alloc _ _ _)) (World.grownBy_alloc _ _ _)
  have hsz1 : w1.heap.size = W.heap.size + 3 := by rw [hw1, size_alloc, size_alloc, size_alloc]
  have e0 : w1.heap[W.heap.size]? = some (.cells #[.pointer none, .slice none 0 0] 28 (0, 0)) := by rw [hw1]; exact blk_al (blk_al blk_at _) _
  have e1 : w1.heap[W.heap.size + 1]? = some (.cells #[.string s] 9 (0, 0)) := by rw [hw1]; have h := blk_al (blk_at (w := W.alloc (.cells #[.pointer none, .slice none 0 0] 28)) (o := .cells #[.string s] 9)) (.cells #[.int .i64 63] 3); rwa [size_alloc] at h
  have e2 : w1.heap[W.heap.size + 1 + 1]? = some (.cells #[.int .i64 63] 3 (0, 0)) := by rw [hw1]; have h := blk_at (w := (W.alloc (.cells #[.pointer none, .slice none 0 0] 28)).alloc (.cells #[.string s] 9)) (o := .cells #[.int .i64 63] 3); rwa [size_alloc, size_alloc] at h
  rw [size_alloc]
  clear hw1
  obtain ⟨b, hb⟩ : ∃ b, W.heap.size = b := ⟨_, rfl⟩
  rw [hb] at hsz1 e0 e1 e2 ⊢
  have HB := Lib.hid hb
  have HG1 := Lib.hid g1
  have HE1 := Lib.hid e1
  have HE2 := Lib.hid e2
  have HE0 := Lib.hid e0
  have HSZ1 := Lib.hid hsz1
  clear hb g1 e0 e1 e2 hsz1
  gi_wp2_with fail
  refine range_law (gf := 17) (lb := #[.pointer (some ⟨b + 1, 0, none⟩), .pointer (some ⟨b + 1 + 1, 0, none⟩)]) rfl (enters_of Try.func17 (by kernel_rfl) rfl)
    (encs := encsS s 63) (N := N) (B := b + 1) (ks := [b + 1, b + 1 + 1]) (u := 5) (fun k hk => by have := HSZ1.out; simp at hk; omega) (by have := HSZ1.out; omega) (fun _ => rfl)
    (all_seq 7 (by decide) s 63 N (b + 1) (b + 1 + 1) (by decide) (by decide) (by have := HSZ.out; omega) HN.out w1 HE1.out HE2.out)
    (IP W b (b + 3) fP s 63) (by rw [HSZ1.out]; exact IP.abid (by have := HB.out; omega) (by omega) (by omega)) ⟨Oz.start HE0.out (by omega) (by rw [HSZ1.out]; exact Nat.le_refl _), HG1.out⟩
    (fun j => { tmps := #[.string s, undef, .string ⟨#[]⟩, .pointer (some ⟨b, 0, none⟩), .int .i64 ((sk s 63 (ps s 63 j) : Nat) : Int), .int .u8 ((bu s (ps s 63 j)).toNat : Int), .string s, .func (.func 17) #[] #[.pointer (some ⟨b + 1, 0, none⟩), .pointer (some ⟨b + 1 + 1, 0, none⟩)], .int .i64 ((sk s 63 (ps s 63 j) : Nat) : Int), .int .u8 ((bu s (ps s 63 j)).toNat : Int), undef, undef, undef, undef, undef, undef, undef, undef, undef, undef, undef, undef, undef], defers := [] }) ?assign ?body ?done
  case assign =>
    intro l j W' K hK
    unfold encsS
    gi_wp2
    exact hK
  case body =>
    intro l j Wr hI hrk hj
    obtain ⟨i, hi⟩ : ∃ i, ps s 63 j = i := ⟨_, rfl⟩
    have hil : i < s.size := by rw [← hi]; exact HN.out.lt j hj
    obtain ⟨k, hk⟩ := sk_ex s 63 i hil (by decide)
    have hlen := HLEN.out j (by omega)
    have hps := HPS.out j
    have hpu := pu_next (f := fP) hi hk
    unfold IP at hI
    obtain ⟨bs, hbs⟩ : ∃ bs, pu fP s 63 j = bs := ⟨_, rfl⟩
    obtain ⟨c, hc⟩ : ∃ c, bu s i = c := ⟨_, rfl⟩
    rw [hbs] at hpu hlen hI
    rw [hc] at hpu
    rw [hi, sk_is hk, hc]
    rw [hi] at hlen hps
    have hl2 : bs.length ≤ 900000 := by have := HSZ.out; omega
    have hk63 := hk.km
    have hk1 := hk.k1
    have c256 := u_lt c
    have HPU := Lib.hid hpu
    have HI := Lib.hid hI
    have HRK := Lib.hid hrk
    have HL2 := Lib.hid hl2
    have hbW : W.heap.size ≤ b := by have := HB.out; omega
    have HBW := Lib.hid hbW
    clear hpu hI hrk hl2 hlen hps hi hil hk hbs hc hj hbW
    have K2 := Lib.hid (fun (bs' : List UInt8) u (h : Oz b (b + 3) bs' u) (hh : bs'.length ≤ 1000000) => byte_z b (b + 3) bs' c u h hh)
    by_cases hbr : 1 < k ∨ 192 ≤ c.toNat
    · have hf : fP k c = [UInt8.ofNat (192 + k)] ++ [c] := by unfold fP; rw [if_pos hbr]
      have HF := Lib.hid hf
      have o1 := or_c0 k (by omega)
      have w2 : IntKind.u8.wrap ((192 + k : Nat) : Int) = ((192 + k : Nat) : Int) := IntWalk.u8_in _ (by omega)
      have w3 : ((192 + k : Nat) : Int) % 256 = ((192 + k : Nat) : Int) := by omega
      have K1 := byte_z b (b + 3) bs (UInt8.ofNat (192 + k)) Wr HI.out.1 (by have := HL2.out; omega)
      rw [ofNat_nat (192 + k) (by omega)] at K1
      obtain ⟨n2, hn2⟩ : ∃ n2, 192 + k = n2 := ⟨_, rfl⟩
      rw [hn2] at o1 w2 w3 K1
      replace K1 := Lib.hid K1
      have HN2 := Lib.hid hn2
      clear hf hn2
      by_cases h1k : 1 < k
      · have d1 : (1 : Int) < (k : Int) := by omega
        gi_wp2_with fail
        refine ⟨trivial, (CallsIn.inRound l (callsIn_wide.2 K1.out)).mono ?_⟩
        rintro e u1 ⟨rfl, hz1, f1, y1⟩
        have K3 := Lib.hid (K2.out _ u1 hz1 (by have := HL2.out; simp; omega))
        have HX1 := Lib.hid (And.intro hz1 (And.intro f1 y1))
        clear hz1 f1 y1 K1 K2
        gi_wp2_with fail
        refine ⟨trivial, (CallsIn.inRound l (callsIn_wide.2 K3.out)).mono ?_⟩
        rintro e u2 ⟨rfl, hz2, f2, y2⟩
        have HX2 := Lib.hid (And.intro hz2 (And.intro f2 y2))
        clear hz2 f2 y2 K3
        gi_wp2
        refine ⟨keeps_fy (HX1.out.2.2.trans HX2.out.2.2) HI.out.1, kq_fy (HX1.out.2.2.trans HX2.out.2.2) HRK.out (by simp; omega), ?_⟩
        unfold IP
        rw [HPU.out, HF.out, ← List.append_assoc, HN2.out]
        exact IP.step HI.out HBW.out HX2.out.1 (HX1.out.2.1.trans HX2.out.2.1)
      · have d1 : ¬ (1 : Int) < (k : Int) := by omega
        have d2 : (192 : Int) ≤ (c.toNat : Int) := by omega
        gi_wp2_with fail
        refine ⟨trivial, (CallsIn.inRound l (callsIn_wide.2 K1.out)).mono ?_⟩
        rintro e u1 ⟨rfl, hz1, f1, y1⟩
        have K3 := Lib.hid (K2.out _ u1 hz1 (by have := HL2.out; simp; omega))
        have HX1 := Lib.hid (And.intro hz1 (And.intro f1 y1))
        clear hz1 f1 y1 K1 K2
        gi_wp2_with fail
        refine ⟨trivial, (CallsIn.inRound l (callsIn_wide.2 K3.out)).mono ?_⟩
        rintro e u2 ⟨rfl, hz2, f2, y2⟩
        have HX2 := Lib.hid (And.intro hz2 (And.intro f2 y2))
        clear hz2 f2 y2 K3
        gi_wp2
        refine ⟨keeps_fy (HX1.out.2.2.trans HX2.out.2.2) HI.out.1, kq_fy (HX1.out.2.2.trans HX2.out.2.2) HRK.out (by simp; omega), ?_⟩
        unfold IP
        rw [HPU.out, HF.out, ← List.append_assoc, HN2.out]
        exact IP.step HI.out HBW.out HX2.out.1 (HX1.out.2.1.trans HX2.out.2.1)
    · have hf : fP k c = [] ++ [c] := by unfold fP; rw [if_neg hbr]
      have HF := Lib.hid hf
      have d1 : ¬ (1 : Int) < (k : Int) := by omega
      have d2 : ¬ (192 : Int) ≤ (c.toNat : Int) := by omega
      have K3 := Lib.hid (K2.out bs Wr HI.out.1 (by have := HL2.out; omega))
      clear hf K2
      gi_wp2_with fail
      refine ⟨trivial, (CallsIn.inRound l (callsIn_wide.2 K3.out)).mono ?_⟩
      rintro e u2 ⟨rfl, hz2, f2, y2⟩
      have HX2 := Lib.hid (And.intro hz2 (And.intro f2 y2))
      clear hz2 f2 y2 K3
      gi_wp2
      refine ⟨keeps_fy HX2.out.2.2 HI.out.1, kq_fy HX2.out.2.2 HRK.out (by simp; omega), ?_⟩
      unfold IP
      rw [HPU.out, HF.out, List.nil_append]
      exact IP.step HI.out HBW.out HX2.out.1 HX2.out.2.1
  case done =>
    intro D W' hD hI hK
    unfold IP at hI
    have hl := HLEN.out N (Nat.le_refl _)
    have hp := HPS.out N
    have KS := Lib.hid (string_z b (b + 3) _ W W' hI.1 hI.2 (by have := HB.out; omega) (by have := HSZ.out; omega))
    have HK := Lib.hid hK
    clear hI hK hl hp
    gi_wp2_with fail
    refine ⟨trivial, (callsIn_wide.2 KS.out).mono ?_⟩
    rintro e w2 ⟨rfl, g2, ko⟩
    have HK2 := Lib.hid (ko.same D _ HK.out rfl)
    have HG2 := Lib.hid (show W.grownBy (w2.putObj D (.deferred none)) none from gb_own g2 (by have := HB.out; have := HSZ1.out; omega) (grownBy_putObj' _ D _))
    clear g2 ko
    gi_wp2
    refine ⟨by simp, .inl ⟨_, _, rfl, run_takeDeferred HK2.out, ?_⟩⟩
    exact ⟨_, results_tmp rfl _ _ _, N, HN.out, rfl, HG2.out⟩

end Go.Proofs.Yteimfjlogjdakaa.Pc
