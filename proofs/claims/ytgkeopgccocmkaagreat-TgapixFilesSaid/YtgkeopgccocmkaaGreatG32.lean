/- Texts of one kind, one behind the other: TpC, TpD. -/
import Derived.Test.YtgkeopgccocmkaaGreatG31
/- The law of layer 17, walked (written by wip/gen/tpc.py). -/
namespace Go.Proofs.YtgkeopgccocmkaaGreat.Tp
open Go.ChangeShapes Go.WideShapes Go.ChangeAt Go.RowKit
open Go.Proofs.YtgkeopgccocmkaaGreat.Sc Go.Proofs.YtgkeopgccocmkaaGreat.Le Go.Proofs.YtgkeopgccocmkaaGreat.Pa Go.Proofs.YtgkeopgccocmkaaGreat.Tg
set_option linter.unusedVariables false

/-- The law's blocks: the document's head, the code's, its fault. -/
structure LK (wb hb : Nat) (nm x2 fs cnt en gw gh d a : Nat) (mi : Int) (mp lf tp : Bool) (w : World) : Prop where
  w0 : w.heap[wb]? = some (.cells #[.int .i64 nm, .int .i64 mi, .int .i64 x2, .int .i64 fs, .int .i64 cnt, .int .i64 en, .int .i64 gw, .int .i64 gh, .int .i64 d, .int .i64 a, .bool lf, .bool tp, .int .i64 0, .int .i64 0] 23 (0, 0))
  h : w.heap[hb]? = some (.cells #[.int .i64 nm, .bool mp, .int .i64 x2, .int .i64 fs, .int .i64 cnt, .int .i64 en, .int .i64 gw, .int .i64 gh, .int .i64 d, .int .i64 a, .bool lf, .bool tp] 35 (0, 0))
  f : w.heap[hb + 1]? = some (.cells #[.int .i64 0, .int .i64 0, .int .i64 0] 37 (0, 0))
theorem LK.turned {wb hb : Nat} {nm x2 fs cnt en gw gh d a : Nat} {mi : Int} {mp lf tp : Bool} {w w' : World} {S : List Nat} (k : LK wb hb nm x2 fs cnt en gw gh d a mi mp lf tp w) (t : Tn w w' S) (h0 : wb ∉ S) (h1 : hb ∉ S) (h2 : hb + 1 ∉ S) : LK wb hb nm x2 fs cnt en gw gh d a mi mp lf tp w' :=
  ⟨(t.block _ (blk_lt k.w0) h0).trans k.w0, (t.block _ (blk_lt k.h) h1).trans k.h, (t.block _ (blk_lt k.f) h2).trans k.f⟩
theorem tn_gb {a b : World} {S : List Nat} (t : Tn a b S) (k : ∀ x, x ∈ S → a.heap.size ≤ x) : a.grownBy b none := Tn.own (gb_refl a none) t (fun x hx => .inl (k x hx))
def LT : St := St.new 0 0 2000 10000
set_option maxRecDepth 100000 in
set_option maxHeartbeats 4000000 in
theorem files_fail (s : ByteArray) (n : Int) (nm x2 fs cnt en gw gh d a : Nat) (mi : Int) (mp lf tp : Bool) (W : World) (hl : s.size ≤ 900) (hc : cnt ≤ 300) (KR0 : ∀ u, Calls Tryz.prog 4 #[.string s] u fun e w' => e = .returned (.agg #[.int .i64 nm, .int .i64 mi, .int .i64 x2, .int .i64 fs, .int .i64 cnt, .int .i64 en, .int .i64 gw, .int .i64 gh, .int .i64 d, .int .i64 a, .bool lf, .bool tp, .int .i64 0, .int .i64 0]) ∧ u.grownBy w' none)
    (KH0 : ∀ c l u, Sr.So c l s 0 0 s.size u → Led l LT.ls u → Calls Tryz.prog 8 #[.pointer (some ⟨c, 0, none⟩)] u fun e w' => e = .returned (.tuple #[.agg #[.int .i64 nm, .bool mp, .int .i64 x2, .int .i64 fs, .int .i64 cnt, .int .i64 en, .int .i64 gw, .int .i64 gh, .int .i64 d, .int .i64 a, .bool lf, .bool tp], .agg #[.int .i64 0, .int .i64 0, .int .i64 0]]) ∧ (Sr.So c l s 18 0 s.size w' ∧ Led l (LT.work 1).1.ls w') ∧ Tn u w' [c, l])
    (KM0 : ∀ c l u, Sr.So c l s 18 0 s.size u → Led l (LT.work 1).1.ls u → Calls Tryz.prog 9 #[.pointer (some ⟨c, 0, none⟩), .agg #[.int .i64 nm, .bool mp, .int .i64 x2, .int .i64 fs, .int .i64 cnt, .int .i64 en, .int .i64 gw, .int .i64 gh, .int .i64 d, .int .i64 a, .bool lf, .bool tp]] u fun e w' => e = .returned (.tuple #[.pointer none, .agg #[.int .i64 1, .int .i64 2, .int .i64 s.size]]) ∧ (∃ y : St, Led l y.ls w' ∧ y.by_ = 0) ∧ Tn u w' [c, l])
    (KD0 : ∀ u, Calls Tryz.prog 10 #[.string s, .agg #[.int .i64 nm, .int .i64 mi, .int .i64 x2, .int .i64 fs, .int .i64 cnt, .int .i64 en, .int .i64 gw, .int .i64 gh, .int .i64 d, .int .i64 a, .bool lf, .bool tp, .int .i64 0, .int .i64 0]] u fun e w' => e = .returned (.agg #[.int .i64 0, .slice none 0 0, .int .i64 1, .int .i64 s.size]) ∧ u.grownBy w' none) :
    Calls Tryz.prog 3 #[.string s, .int .u8 n] W fun e w' => e = .returned (.bool true) ∧ W.grownBy w' none := by
  have d1 : decide ((900 : Int) < (s.size : Int)) = false := decide_eq_false (by omega)
  have d2 : decide ((300 : Int) < (cnt : Int)) = false := decide_eq_false (by omega)
  have KR := Lib.hid KR0
  have KH := Lib.hid KH0
  have KM := Lib.hid KM0
  have KD := Lib.hid KD0
  clear KR0 KH0 KM0 KD0 hc
  go_enter Tryz.func3, Tryz.ntmps3
  go_wp2_with fail
  refine (KR.out _).mono ?_
  rintro e w1 ⟨rfl, g1⟩
  have HB1 : (w1.alloc (.cells #[.int .i64 nm, .int .i64 mi, .int .i64 x2, .int .i64 fs, .int .i64 cnt, .int .i64 en, .int .i64 gw, .int .i64 gh, .int .i64 d, .int .i64 a, .bool lf, .bool tp, .int .i64 0, .int .i64 0] 23)).heap[w1.heap.size]? = some (.cells #[.int .i64 nm, .int .i64 mi, .int .i64 x2, .int .i64 fs, .int .i64 cnt, .int .i64 en, .int .i64 gw, .int .i64 gh, .int .i64 d, .int .i64 a, .bool lf, .bool tp, .int .i64 0, .int .i64 0] 23 (0, 0)) := blk_at
  have G1 := Lib.hid (gb_trans g1 (World.grownBy_alloc w1 (.cells #[.int .i64 nm, .int .i64 mi, .int .i64 x2, .int .i64 fs, .int .i64 cnt, .int .i64 en, .int .i64 gw, .int .i64 gh, .int .i64 d, .int .i64 a, .bool lf, .bool tp, .int .i64 0, .int .i64 0] 23) none))
  go_wp2_with fail
  obtain ⟨wb, hwb⟩ : ∃ q, w1.heap.size = q := ⟨_, rfl⟩
  rw [hwb] at HB1 ⊢
  have HWB := Lib.hid (show W.heap.size ≤ wb from by rw [← hwb]; exact g1.size)
  generalize w1.alloc (.cells #[.int .i64 nm, .int .i64 mi, .int .i64 x2, .int .i64 fs, .int .i64 cnt, .int .i64 en, .int .i64 gw, .int .i64 gh, .int .i64 d, .int .i64 a, .bool lf, .bool tp, .int .i64 0, .int .i64 0] 23) = w2 at HB1 G1 ⊢
  have HB2 := Lib.hid HB1
  clear HB1 hwb g1 KR
  refine (new_calls 0 0 2000 10000 _).mono ?_
  rintro e w3 ⟨l, rfl, L3, g3, hll⟩
  have hwl : wb < l := Nat.lt_of_lt_of_le (blk_lt HB2.out) hll
  have HB3 := Lib.hid (old0 g3 HB2.out (blk_lt HB2.out) (by simp))
  have HG3 := Lib.hid (gb_trans G1.out g3)
  have HL3 := Lib.hid (show Led l LT.ls w3 from L3)
  clear L3 g3 hll HB2 G1
  go_wp2_with fail
  refine (Sr.snew_calls l s _ (by omega)).mono ?_
  rintro e w4 ⟨c, rfl, S4, g4, hcc⟩
  have hlc : l < c := Nat.lt_of_lt_of_le HL3.out.lt hcc
  have HS4 := Lib.hid (S4 HL3.out.lt)
  have HB4 := Lib.hid (old0 g4 HB3.out (blk_lt HB3.out) (by simp))
  have HG4 := Lib.hid (gb_trans HG3.out g4)
  have HL4 := Lib.hid (HL3.out.grown g4 (by simp))
  clear S4 g4 hcc HB3 HG3 HL3
  go_wp2_with fail
  refine (KH.out c l _ HS4.out HL4.out).mono ?_
  rintro e w5 ⟨rfl, ⟨S5, L5⟩, t5⟩
  have HS5 := Lib.hid S5
  have HL5 := Lib.hid L5
  have HB5 := Lib.hid ((t5.block wb (blk_lt HB4.out) (by simp; omega)).trans HB4.out)
  have HT5 := Lib.hid ((Tn.gb HG4.out (S := [c, l]) (by simp)).trans t5)
  clear S5 L5 t5 HS4 HL4 HB4 HG4 KH
  go_wp2_with fail
  obtain ⟨hb, hhb⟩ : ∃ q, w5.heap.size = q := ⟨_, rfl⟩
  have hcb : c < hb := hhb ▸ HS5.out.lt
  have HK0 : LK wb w5.heap.size nm x2 fs cnt en gw gh d a mi mp lf tp (((w5.alloc (.cells #[.int .i64 nm, .bool mp, .int .i64 x2, .int .i64 fs, .int .i64 cnt, .int .i64 en, .int .i64 gw, .int .i64 gh, .int .i64 d, .int .i64 a, .bool lf, .bool tp] 35)).alloc (.cells #[.int .i64 0, .int .i64 0, .int .i64 0] 37))) := ⟨blk_al (blk_al HB5.out _) _, blk_al blk_at _, by rw [← size_alloc w5 (.cells #[.int .i64 nm, .bool mp, .int .i64 x2, .int .i64 fs, .int .i64 cnt, .int .i64 en, .int .i64 gw, .int .i64 gh, .int .i64 d, .int .i64 a, .bool lf, .bool tp] 35)]; exact blk_at⟩
  have HT6 := Lib.hid (show Tn W (((w5.alloc (.cells #[.int .i64 nm, .bool mp, .int .i64 x2, .int .i64 fs, .int .i64 cnt, .int .i64 en, .int .i64 gw, .int .i64 gh, .int .i64 d, .int .i64 a, .bool lf, .bool tp] 35)).alloc (.cells #[.int .i64 0, .int .i64 0, .int .i64 0] 37))) [c, l] from Tn.al (Tn.al HT5.out))
  have HS6 := Lib.hid (show Sr.So c l s 18 0 s.size (((w5.alloc (.cells #[.int .i64 nm, .bool mp, .int .i64 x2, .int .i64 fs, .int .i64 cnt, .int .i64 en, .int .i64 gw, .int .i64 gh, .int .i64 d, .int .i64 a, .bool lf, .bool tp] 35)).alloc (.cells #[.int .i64 0, .int .i64 0, .int .i64 0] 37))) from so_al (so_al HS5.out))
  have HL6 := Lib.hid (show Led l (LT.work 1).1.ls (((w5.alloc (.cells #[.int .i64 nm, .bool mp, .int .i64 x2, .int .i64 fs, .int .i64 cnt, .int .i64 en, .int .i64 gw, .int .i64 gh, .int .i64 d, .int .i64 a, .bool lf, .bool tp] 35)).alloc (.cells #[.int .i64 0, .int .i64 0, .int .i64 0] 37))) from led_al (led_al HL5.out))
  rw [hhb] at HK0 ⊢
  have HWH := Lib.hid (show W.heap.size ≤ hb from by rw [← hhb]; exact HT5.out.size)
  generalize ((w5.alloc (.cells #[.int .i64 nm, .bool mp, .int .i64 x2, .int .i64 fs, .int .i64 cnt, .int .i64 en, .int .i64 gw, .int .i64 gh, .int .i64 d, .int .i64 a, .bool lf, .bool tp] 35)).alloc (.cells #[.int .i64 0, .int .i64 0, .int .i64 0] 37)) = w6 at HK0 HT6 HS6 HL6 ⊢
  have HK6 := Lib.hid HK0
  clear HK0 HT5 HS5 HL5 HB5 hhb
  refine (KM.out c l _ HS6.out HL6.out).mono ?_
  rintro e w7 ⟨rfl, ⟨y, L7, hy⟩, t7⟩
  have HK7 := Lib.hid (HK6.out.turned t7 (by simp; omega) (by simp; omega) (by simp; omega))
  have HL7 := Lib.hid L7
  have HT7 := Lib.hid (HT6.out.trans t7)
  have HY := Lib.hid hy
  clear t7 L7 HS6 HL6 HK6 HT6 KM hy
  have w_0 : w7.cell? ⟨wb, 0, none⟩ = some (.int .i64 nm) := blk_cell HK7.out.w0 0
  have w_1 : w7.cell? ⟨wb, 1, none⟩ = some (.int .i64 mi) := blk_cell HK7.out.w0 1
  have w_2 : w7.cell? ⟨wb, 2, none⟩ = some (.int .i64 x2) := blk_cell HK7.out.w0 2
  have w_3 : w7.cell? ⟨wb, 3, none⟩ = some (.int .i64 fs) := blk_cell HK7.out.w0 3
  have w_4 : w7.cell? ⟨wb, 4, none⟩ = some (.int .i64 cnt) := blk_cell HK7.out.w0 4
  have w_5 : w7.cell? ⟨wb, 5, none⟩ = some (.int .i64 en) := blk_cell HK7.out.w0 5
  have w_6 : w7.cell? ⟨wb, 6, none⟩ = some (.int .i64 gw) := blk_cell HK7.out.w0 6
  have w_7 : w7.cell? ⟨wb, 7, none⟩ = some (.int .i64 gh) := blk_cell HK7.out.w0 7
  have w_8 : w7.cell? ⟨wb, 8, none⟩ = some (.int .i64 d) := blk_cell HK7.out.w0 8
  have w_9 : w7.cell? ⟨wb, 9, none⟩ = some (.int .i64 a) := blk_cell HK7.out.w0 9
  have w_10 : w7.cell? ⟨wb, 10, none⟩ = some (.bool lf) := blk_cell HK7.out.w0 10
  have w_11 : w7.cell? ⟨wb, 11, none⟩ = some (.bool tp) := blk_cell HK7.out.w0 11
  have w_12 : w7.cell? ⟨wb, 12, none⟩ = some (.int .i64 0) := blk_cell HK7.out.w0 12
  have w_13 : w7.cell? ⟨wb, 13, none⟩ = some (.int .i64 0) := blk_cell HK7.out.w0 13
  have h_0 : w7.cell? ⟨hb, 0, none⟩ = some (.int .i64 nm) := blk_cell HK7.out.h 0
  have h_1 : w7.cell? ⟨hb, 1, none⟩ = some (.bool mp) := blk_cell HK7.out.h 1
  have h_2 : w7.cell? ⟨hb, 2, none⟩ = some (.int .i64 x2) := blk_cell HK7.out.h 2
  have h_3 : w7.cell? ⟨hb, 3, none⟩ = some (.int .i64 fs) := blk_cell HK7.out.h 3
  have h_4 : w7.cell? ⟨hb, 4, none⟩ = some (.int .i64 cnt) := blk_cell HK7.out.h 4
  have h_5 : w7.cell? ⟨hb, 5, none⟩ = some (.int .i64 en) := blk_cell HK7.out.h 5
  have h_6 : w7.cell? ⟨hb, 6, none⟩ = some (.int .i64 gw) := blk_cell HK7.out.h 6
  have h_7 : w7.cell? ⟨hb, 7, none⟩ = some (.int .i64 gh) := blk_cell HK7.out.h 7
  have h_8 : w7.cell? ⟨hb, 8, none⟩ = some (.int .i64 d) := blk_cell HK7.out.h 8
  have h_9 : w7.cell? ⟨hb, 9, none⟩ = some (.int .i64 a) := blk_cell HK7.out.h 9
  have h_10 : w7.cell? ⟨hb, 10, none⟩ = some (.bool lf) := blk_cell HK7.out.h 10
  have h_11 : w7.cell? ⟨hb, 11, none⟩ = some (.bool tp) := blk_cell HK7.out.h 11
  have f_0 : w7.cell? ⟨hb + 1, 0, none⟩ = some (.int .i64 0) := blk_cell HK7.out.f 0
  have f_1 : w7.cell? ⟨hb + 1, 1, none⟩ = some (.int .i64 0) := blk_cell HK7.out.f 1
  have f_2 : w7.cell? ⟨hb + 1, 2, none⟩ = some (.int .i64 0) := blk_cell HK7.out.f 2
  have lw := blk_lt HK7.out.w0
  have lh := blk_lt HK7.out.h
  have lf' := blk_lt HK7.out.f
  go_wp2_with fail
  obtain ⟨gk, hgk⟩ : ∃ q, w7.heap.size = q := ⟨_, rfl⟩
  have hgf : (w7.alloc (.cells #[.int .i64 1, .int .i64 2, .int .i64 s.size] 37)).heap[w7.heap.size]? = some (.cells #[.int .i64 1, .int .i64 2, .int .i64 s.size] 37 (0, 0)) := blk_at
  have hk8 := HK7.out.turned (Tn.gb (World.grownBy_alloc w7 (.cells #[.int .i64 1, .int .i64 2, .int .i64 s.size] 37) none) (S := []) (by simp)) (by simp) (by simp) (by simp)
  have hl8 := led_al (o := .cells #[.int .i64 1, .int .i64 2, .int .i64 s.size] 37) HL7.out
  have ht8 := Tn.al (o := .cells #[.int .i64 1, .int .i64 2, .int .i64 s.size] 37) HT7.out
  have hg8 : w7.grownBy (w7.alloc (.cells #[.int .i64 1, .int .i64 2, .int .i64 s.size] 37)) none := World.grownBy_alloc w7 _ none
  have hwg : W.heap.size ≤ gk := by rw [← hgk]; exact HT7.out.size
  have hhg : hb + 1 < gk := by rw [← hgk]; exact blk_lt HK7.out.f
  rw [hgk] at hgf ⊢
  generalize w7.alloc (.cells #[.int .i64 1, .int .i64 2, .int .i64 s.size] 37) = w8 at hgf hk8 hl8 ht8 hg8 ⊢
  have HF8 := Lib.hid hgf
  have HK8 := Lib.hid hk8
  have HL8 := Lib.hid hl8
  have HT8 := Lib.hid ht8
  have HG78 := Lib.hid hg8
  clear w_0 w_1 w_2 w_3 w_4 w_5 w_6 w_7 w_8 w_9 w_10 w_11 w_12 w_13 h_0 h_1 h_2 h_3 h_4 h_5 h_6 h_7 h_8 h_9 h_10 h_11 f_0 f_1 f_2 lw lh lf'
  clear hgf hk8 hl8 ht8 hg8 hgk HK7 HL7 HT7
  refine (KD.out _).mono ?_
  rintro e w8' ⟨rfl, g8⟩
  have hk9 := HK8.out.turned (Tn.gb g8 (S := []) (by simp)) (by simp) (by simp) (by simp)
  have hf9 := old0 g8 HF8.out (blk_lt HF8.out) (by simp)
  have hl9 := HL8.out.grown g8 (by simp)
  have ht9 := HT8.out.trans (Tn.gb g8 (S := [c, l]) (by simp))
  have hgv : gk < w8'.heap.size := blk_lt hf9
  have HG79' := Lib.hid (gb_trans HG78.out g8)
  have HK9' := Lib.hid hk9
  have HF9' := Lib.hid hf9
  have HL9' := Lib.hid hl9
  have HT9' := Lib.hid ht9
  clear hk9 hf9 hl9 ht9 g8 HK8 HF8 HL8 HT8 HG78 KD
  have v_0 : w8'.cell? ⟨gk, 0, none⟩ = some (.int .i64 1) := blk_cell HF9'.out 0
  have v_1 : w8'.cell? ⟨gk, 1, none⟩ = some (.int .i64 2) := blk_cell HF9'.out 1
  have v_2 : w8'.cell? ⟨gk, 2, none⟩ = some (.int .i64 s.size) := blk_cell HF9'.out 2
  have w_0 : w8'.cell? ⟨wb, 0, none⟩ = some (.int .i64 nm) := blk_cell HK9'.out.w0 0
  have w_1 : w8'.cell? ⟨wb, 1, none⟩ = some (.int .i64 mi) := blk_cell HK9'.out.w0 1
  have w_2 : w8'.cell? ⟨wb, 2, none⟩ = some (.int .i64 x2) := blk_cell HK9'.out.w0 2
  have w_3 : w8'.cell? ⟨wb, 3, none⟩ = some (.int .i64 fs) := blk_cell HK9'.out.w0 3
  have w_4 : w8'.cell? ⟨wb, 4, none⟩ = some (.int .i64 cnt) := blk_cell HK9'.out.w0 4
  have w_5 : w8'.cell? ⟨wb, 5, none⟩ = some (.int .i64 en) := blk_cell HK9'.out.w0 5
  have w_6 : w8'.cell? ⟨wb, 6, none⟩ = some (.int .i64 gw) := blk_cell HK9'.out.w0 6
  have w_7 : w8'.cell? ⟨wb, 7, none⟩ = some (.int .i64 gh) := blk_cell HK9'.out.w0 7
  have w_8 : w8'.cell? ⟨wb, 8, none⟩ = some (.int .i64 d) := blk_cell HK9'.out.w0 8
  have w_9 : w8'.cell? ⟨wb, 9, none⟩ = some (.int .i64 a) := blk_cell HK9'.out.w0 9
  have w_10 : w8'.cell? ⟨wb, 10, none⟩ = some (.bool lf) := blk_cell HK9'.out.w0 10
  have w_11 : w8'.cell? ⟨wb, 11, none⟩ = some (.bool tp) := blk_cell HK9'.out.w0 11
  have w_12 : w8'.cell? ⟨wb, 12, none⟩ = some (.int .i64 0) := blk_cell HK9'.out.w0 12
  have w_13 : w8'.cell? ⟨wb, 13, none⟩ = some (.int .i64 0) := blk_cell HK9'.out.w0 13
  have h_0 : w8'.cell? ⟨hb, 0, none⟩ = some (.int .i64 nm) := blk_cell HK9'.out.h 0
  have h_1 : w8'.cell? ⟨hb, 1, none⟩ = some (.bool mp) := blk_cell HK9'.out.h 1
  have h_2 : w8'.cell? ⟨hb, 2, none⟩ = some (.int .i64 x2) := blk_cell HK9'.out.h 2
  have h_3 : w8'.cell? ⟨hb, 3, none⟩ = some (.int .i64 fs) := blk_cell HK9'.out.h 3
  have h_4 : w8'.cell? ⟨hb, 4, none⟩ = some (.int .i64 cnt) := blk_cell HK9'.out.h 4
  have h_5 : w8'.cell? ⟨hb, 5, none⟩ = some (.int .i64 en) := blk_cell HK9'.out.h 5
  have h_6 : w8'.cell? ⟨hb, 6, none⟩ = some (.int .i64 gw) := blk_cell HK9'.out.h 6
  have h_7 : w8'.cell? ⟨hb, 7, none⟩ = some (.int .i64 gh) := blk_cell HK9'.out.h 7
  have h_8 : w8'.cell? ⟨hb, 8, none⟩ = some (.int .i64 d) := blk_cell HK9'.out.h 8
  have h_9 : w8'.cell? ⟨hb, 9, none⟩ = some (.int .i64 a) := blk_cell HK9'.out.h 9
  have h_10 : w8'.cell? ⟨hb, 10, none⟩ = some (.bool lf) := blk_cell HK9'.out.h 10
  have h_11 : w8'.cell? ⟨hb, 11, none⟩ = some (.bool tp) := blk_cell HK9'.out.h 11
  have f_0 : w8'.cell? ⟨hb + 1, 0, none⟩ = some (.int .i64 0) := blk_cell HK9'.out.f 0
  have f_1 : w8'.cell? ⟨hb + 1, 1, none⟩ = some (.int .i64 0) := blk_cell HK9'.out.f 1
  have f_2 : w8'.cell? ⟨hb + 1, 2, none⟩ = some (.int .i64 0) := blk_cell HK9'.out.f 2
  have lw := blk_lt HK9'.out.w0
  have lh := blk_lt HK9'.out.h
  have lf' := blk_lt HK9'.out.f
  go_upto_region 11 with fail
  obtain ⟨vk, hvk⟩ : ∃ q, w8'.heap.size = q := ⟨_, rfl⟩
  have hv9 : (w8'.alloc (.cells #[.int .i64 0, .slice none 0 0, .int .i64 1, .int .i64 s.size] 45)).heap[w8'.heap.size]? = some (.cells #[.int .i64 0, .slice none 0 0, .int .i64 1, .int .i64 s.size] 45 (0, 0)) := blk_at
  have hk9 := HK9'.out.turned (Tn.gb (World.grownBy_alloc w8' (.cells #[.int .i64 0, .slice none 0 0, .int .i64 1, .int .i64 s.size] 45) none) (S := []) (by simp)) (by simp) (by simp) (by simp)
  have hf9 : (w8'.alloc (.cells #[.int .i64 0, .slice none 0 0, .int .i64 1, .int .i64 s.size] 45)).heap[gk]? = some (.cells #[.int .i64 1, .int .i64 2, .int .i64 s.size] 37 (0, 0)) := blk_al HF9'.out _
  have hl9 := led_al (o := .cells #[.int .i64 0, .slice none 0 0, .int .i64 1, .int .i64 s.size] 45) HL9'.out
  have ht9 := Tn.al (o := .cells #[.int .i64 0, .slice none 0 0, .int .i64 1, .int .i64 s.size] 45) HT9'.out
  have hg9 : w7.grownBy (w8'.alloc (.cells #[.int .i64 0, .slice none 0 0, .int .i64 1, .int .i64 s.size] 45)) none := gb_trans HG79'.out (World.grownBy_alloc _ _ none)
  rw [hvk] at hv9 hgv ⊢
  clear w_0 w_1 w_2 w_3 w_4 w_5 w_6 w_7 w_8 w_9 w_10 w_11 w_12 w_13 h_0 h_1 h_2 h_3 h_4 h_5 h_6 h_7 h_8 h_9 h_10 h_11 f_0 f_1 f_2 lw lh lf'
  clear v_0 v_1 v_2
  generalize w8'.alloc (.cells #[.int .i64 0, .slice none 0 0, .int .i64 1, .int .i64 s.size] 45) = w9 at hv9 hk9 hf9 hl9 ht9 hg9 ⊢
  have HV9 := Lib.hid hv9
  have HK9 := Lib.hid hk9
  have HF9 := Lib.hid hf9
  have HL9 := Lib.hid hl9
  have HT9 := Lib.hid ht9
  have HG79 := Lib.hid hg9
  have HG9 := Lib.hid (show W.grownBy w9 none from tn_gb ht9 (by have := HWH.out; have := HWB.out; intro x hx; simp at hx; omega))
  clear hv9 hk9 hf9 hl9 ht9 hg9 HG79' HK9' HF9' HL9' HT9' hvk
  have w_0 : w9.cell? ⟨wb, 0, none⟩ = some (.int .i64 nm) := blk_cell HK9.out.w0 0
  have w_1 : w9.cell? ⟨wb, 1, none⟩ = some (.int .i64 mi) := blk_cell HK9.out.w0 1
  have w_2 : w9.cell? ⟨wb, 2, none⟩ = some (.int .i64 x2) := blk_cell HK9.out.w0 2
  have w_3 : w9.cell? ⟨wb, 3, none⟩ = some (.int .i64 fs) := blk_cell HK9.out.w0 3
  have w_4 : w9.cell? ⟨wb, 4, none⟩ = some (.int .i64 cnt) := blk_cell HK9.out.w0 4
  have w_5 : w9.cell? ⟨wb, 5, none⟩ = some (.int .i64 en) := blk_cell HK9.out.w0 5
  have w_6 : w9.cell? ⟨wb, 6, none⟩ = some (.int .i64 gw) := blk_cell HK9.out.w0 6
  have w_7 : w9.cell? ⟨wb, 7, none⟩ = some (.int .i64 gh) := blk_cell HK9.out.w0 7
  have w_8 : w9.cell? ⟨wb, 8, none⟩ = some (.int .i64 d) := blk_cell HK9.out.w0 8
  have w_9 : w9.cell? ⟨wb, 9, none⟩ = some (.int .i64 a) := blk_cell HK9.out.w0 9
  have w_10 : w9.cell? ⟨wb, 10, none⟩ = some (.bool lf) := blk_cell HK9.out.w0 10
  have w_11 : w9.cell? ⟨wb, 11, none⟩ = some (.bool tp) := blk_cell HK9.out.w0 11
  have w_12 : w9.cell? ⟨wb, 12, none⟩ = some (.int .i64 0) := blk_cell HK9.out.w0 12
  have w_13 : w9.cell? ⟨wb, 13, none⟩ = some (.int .i64 0) := blk_cell HK9.out.w0 13
  have h_0 : w9.cell? ⟨hb, 0, none⟩ = some (.int .i64 nm) := blk_cell HK9.out.h 0
  have h_1 : w9.cell? ⟨hb, 1, none⟩ = some (.bool mp) := blk_cell HK9.out.h 1
  have h_2 : w9.cell? ⟨hb, 2, none⟩ = some (.int .i64 x2) := blk_cell HK9.out.h 2
  have h_3 : w9.cell? ⟨hb, 3, none⟩ = some (.int .i64 fs) := blk_cell HK9.out.h 3
  have h_4 : w9.cell? ⟨hb, 4, none⟩ = some (.int .i64 cnt) := blk_cell HK9.out.h 4
  have h_5 : w9.cell? ⟨hb, 5, none⟩ = some (.int .i64 en) := blk_cell HK9.out.h 5
  have h_6 : w9.cell? ⟨hb, 6, none⟩ = some (.int .i64 gw) := blk_cell HK9.out.h 6
  have h_7 : w9.cell? ⟨hb, 7, none⟩ = some (.int .i64 gh) := blk_cell HK9.out.h 7
  have h_8 : w9.cell? ⟨hb, 8, none⟩ = some (.int .i64 d) := blk_cell HK9.out.h 8
  have h_9 : w9.cell? ⟨hb, 9, none⟩ = some (.int .i64 a) := blk_cell HK9.out.h 9
  have h_10 : w9.cell? ⟨hb, 10, none⟩ = some (.bool lf) := blk_cell HK9.out.h 10
  have h_11 : w9.cell? ⟨hb, 11, none⟩ = some (.bool tp) := blk_cell HK9.out.h 11
  have f_0 : w9.cell? ⟨hb + 1, 0, none⟩ = some (.int .i64 0) := blk_cell HK9.out.f 0
  have f_1 : w9.cell? ⟨hb + 1, 1, none⟩ = some (.int .i64 0) := blk_cell HK9.out.f 1
  have f_2 : w9.cell? ⟨hb + 1, 2, none⟩ = some (.int .i64 0) := blk_cell HK9.out.f 2
  have lw := blk_lt HK9.out.w0
  have lh := blk_lt HK9.out.h
  have lf' := blk_lt HK9.out.f
  have v_0 : w9.cell? ⟨gk, 0, none⟩ = some (.int .i64 1) := blk_cell HF9.out 0
  have v_1 : w9.cell? ⟨gk, 1, none⟩ = some (.int .i64 2) := blk_cell HF9.out 1
  have v_2 : w9.cell? ⟨gk, 2, none⟩ = some (.int .i64 s.size) := blk_cell HF9.out 2
  have m_0 : w9.cell? ⟨vk, 0, none⟩ = some (.int .i64 0) := blk_cell HV9.out 0
  have m_1 : w9.cell? ⟨vk, 1, none⟩ = some (.slice none 0 0) := blk_cell HV9.out 1
  have m_2 : w9.cell? ⟨vk, 2, none⟩ = some (.int .i64 1) := blk_cell HV9.out 2
  have m_3 : w9.cell? ⟨vk, 3, none⟩ = some (.int .i64 s.size) := blk_cell HV9.out 3
  have lv := blk_lt HF9.out
  have lm := blk_lt HV9.out
  have KBy0 := fun u (hu : Led l y.ls u) => bytes_calls l y.ls u hu
  have hyb : y.ls.by_ = 0 := HY.out
  rw [hyb] at KBy0
  have KBy := Lib.hid KBy0
  clear KBy0 hyb HY
  go_wp2_with fail
  refine (KBy.out _ HL9.out).mono ?_
  rintro e w' ⟨rfl, rfl⟩
  go_wp2_with fail
  refine (awake_calls _).mono ?_
  rintro e w9 ⟨rfl, g9⟩
  have G9 := Lib.hid (gb_trans HG9.out g9)
  clear g9
  go_wp2
  go_ret
  exact ⟨rfl, G9.out⟩


/-- What holds ahead of each pixel: the law's blocks; the source, the ledger, the palette. -/
structure LQ (W : World) (c l wb hb vk : Nat) (Q : World → Prop) (nm x2 fs cnt en gw gh d a : Nat) (mi : Int) (mp lf tp : Bool) (at0 : Nat) (la : Option Addr) (ln lc : Nat) (w : World) : Prop where
  k : LK wb hb nm x2 fs cnt en gw gh d a mi mp lf tp w
  v : w.heap[vk]? = some (.cells #[.int .i64 at0, .slice la ln lc, .int .i64 0, .int .i64 0] 45 (0, 0))
  q : Q w
  tn : Tn W w [c, l]
structure SP (c l : Nat) (s : ByteArray) (o m : Nat) (P : World → Prop) (w : World) : Prop where
  so : Sr.So c l s o 0 s.size w
  led : ∃ y, YL m y ∧ Led l y.ls w
  p : P w
theorem LQ.turned {W : World} {c l wb hb vk : Nat} {Q : World → Prop} {nm x2 fs cnt en gw gh d a : Nat} {mi : Int} {mp lf tp : Bool} {at0 : Nat} {la : Option Addr} {ln lc : Nat} {w w' : World} (h : LQ W c l wb hb vk Q nm x2 fs cnt en gw gh d a mi mp lf tp at0 la ln lc w) (QS : ∀ u u', Q u → Tn u u' [c, l] → Q u') (t : Tn w w' [c, l]) (h0 : wb ∉ [c, l]) (h1 : hb ∉ [c, l]) (h2 : hb + 1 ∉ [c, l]) (h3 : vk ∉ [c, l]) : LQ W c l wb hb vk Q nm x2 fs cnt en gw gh d a mi mp lf tp at0 la ln lc w' :=
  ⟨h.k.turned t h0 h1 h2, (t.block _ (blk_lt h.v) h3).trans h.v, QS _ _ h.q t, h.tn.trans t⟩
theorem LQ.grown {W : World} {c l wb hb vk : Nat} {Q : World → Prop} {nm x2 fs cnt en gw gh d a : Nat} {mi : Int} {mp lf tp : Bool} {at0 : Nat} {la : Option Addr} {ln lc : Nat} {w w' : World} (h : LQ W c l wb hb vk Q nm x2 fs cnt en gw gh d a mi mp lf tp at0 la ln lc w) (QS : ∀ u u', Q u → Tn u u' [c, l] → Q u') (g : w.grownBy w' none) : LQ W c l wb hb vk Q nm x2 fs cnt en gw gh d a mi mp lf tp at0 la ln lc w' :=
  ⟨h.k.turned (Tn.gb g (S := []) (by simp)) (by simp) (by simp) (by simp), old0 g h.v (blk_lt h.v) (by simp), QS _ _ h.q (Tn.gb g (by simp)), h.tn.trans (Tn.gb g (by simp))⟩
theorem SP.grown {c l : Nat} {s : ByteArray} {o m : Nat} {P : World → Prop} {w w' : World} (h : SP c l s o m P w) (PS : ∀ u u', P u → Tn u u' [c, l] → P u') (g : w.grownBy w' none) : SP c l s o m P w' := by
  obtain ⟨y, hy, hl⟩ := h.led
  exact ⟨h.so.grown g (by simp), ⟨y, hy, hl.grown g (by simp)⟩, PS _ _ h.p (Tn.gb g (by simp))⟩

/-- What comes of Map, where nothing is wrong: a palette, or none; and how pixels are told then. -/
def MapOk (c l : Nat) (s : ByteArray) (at0 sz : Nat) (H : Array Value) (C : Nat → Nat → Int) (KD PL : Nat → Int) (mf : Bool) (u : World) (e : Ending) (w' : World) : Prop :=
  ∃ (pv : Value) (P : World → Prop) (y : St), e = .returned (.tuple #[pv, .agg #[.int .i64 0, .int .i64 0, .int .i64 0]]) ∧ Sr.So c l s at0 0 s.size w' ∧ YL 21 y ∧ Led l y.ls w' ∧ P w' ∧ (∀ u u', P u → Tn u u' [c, l] → P u') ∧
    CodePix c l s sz H pv P C KD PL ∧ Tn u w' [c, l] ∧ ((mf = true ∧ ∃ p, pv = .pointer (some ⟨p, 0, none⟩)) ∨ (mf = false ∧ pv = .pointer none))
/-- What the document tells of a map, where nothing is wrong. -/
def MapDoc (c l : Nat) (s : ByteArray) (at0 : Nat) (H : Array Value) (C : Nat → Nat → Int) (KD PL : Nat → Int) (u : World) (e : Ending) (w' : World) : Prop :=
  ∃ (la : Option Addr) (ln lc : Nat) (Q : World → Prop), e = .returned (.agg #[.int .i64 at0, .slice la ln lc, .int .i64 0, .int .i64 0]) ∧ Q w' ∧ (∀ u u', Q u → Tn u u' [c, l] → Q u') ∧ DocPix s H (.slice la ln lc) Q C KD PL ∧ u.grownBy w' none


end Go.Proofs.YtgkeopgccocmkaaGreat.Tp

/- The law of layer 17, walked where nothing is wrong with the map (written by wip/gen/tpc.py). -/
namespace Go.Proofs.YtgkeopgccocmkaaGreat.Tp
open Go.ChangeShapes Go.WideShapes Go.ChangeAt Go.RowKit
open Go.Proofs.YtgkeopgccocmkaaGreat.Sc Go.Proofs.YtgkeopgccocmkaaGreat.Le Go.Proofs.YtgkeopgccocmkaaGreat.Pa Go.Proofs.YtgkeopgccocmkaaGreat.Tg
set_option linter.unusedVariables false
set_option maxRecDepth 100000 in
set_option maxHeartbeats 4000000 in
theorem files_ok (s : ByteArray) (n : Nat) (nm x2 fs cnt en gw gh d a : Nat) (mi : Int) (mp lf tp : Bool) (W : World) (hl : s.size ≤ 900) (hc : cnt ≤ 300) (KR0 : ∀ u, Calls Tryz.prog 4 #[.string s] u fun e w' => e = .returned (.agg #[.int .i64 nm, .int .i64 mi, .int .i64 x2, .int .i64 fs, .int .i64 cnt, .int .i64 en, .int .i64 gw, .int .i64 gh, .int .i64 d, .int .i64 a, .bool lf, .bool tp, .int .i64 0, .int .i64 0]) ∧ u.grownBy w' none)
    (KH0 : ∀ c l u, Sr.So c l s 0 0 s.size u → Led l LT.ls u → Calls Tryz.prog 8 #[.pointer (some ⟨c, 0, none⟩)] u fun e w' => e = .returned (.tuple #[.agg #[.int .i64 nm, .bool mp, .int .i64 x2, .int .i64 fs, .int .i64 cnt, .int .i64 en, .int .i64 gw, .int .i64 gh, .int .i64 d, .int .i64 a, .bool lf, .bool tp], .agg #[.int .i64 0, .int .i64 0, .int .i64 0]]) ∧ (Sr.So c l s 18 0 s.size w' ∧ Led l (LT.work 1).1.ls w') ∧ Tn u w' [c, l])
    (at0 sz : Nat) (C : Nat → Nat → Int) (KD PL : Nat → Int) (mf : Bool) (hat : at0 ≤ s.size) (hn : n ≤ 255) (hsz : sz ≤ 4) (hmf : ((x2 : Int) % 8 == 1) = mf) (hC : ∀ o j, 0 ≤ C o j ∧ C o j ≤ 255) (hin : ∀ o, o ≤ s.size → KD o = 0 → o + sz ≤ s.size) (hPL : ∀ o, KD o = 0 → PL o = 0) (hCz : ∀ o j, KD o ≠ 0 → C o j = 0)
    (KM0 : ∀ c l u, Sr.So c l s 18 0 s.size u → Led l (LT.work 1).1.ls u → Calls Tryz.prog 9 #[.pointer (some ⟨c, 0, none⟩), .agg #[.int .i64 nm, .bool mp, .int .i64 x2, .int .i64 fs, .int .i64 cnt, .int .i64 en, .int .i64 gw, .int .i64 gh, .int .i64 d, .int .i64 a, .bool lf, .bool tp]] u (MapOk c l s at0 sz #[.int .i64 nm, .bool mp, .int .i64 x2, .int .i64 fs, .int .i64 cnt, .int .i64 en, .int .i64 gw, .int .i64 gh, .int .i64 d, .int .i64 a, .bool lf, .bool tp] C KD PL mf u))
    (KD0 : ∀ c l u, c < u.heap.size → l < u.heap.size → Calls Tryz.prog 10 #[.string s, .agg #[.int .i64 nm, .int .i64 mi, .int .i64 x2, .int .i64 fs, .int .i64 cnt, .int .i64 en, .int .i64 gw, .int .i64 gh, .int .i64 d, .int .i64 a, .bool lf, .bool tp, .int .i64 0, .int .i64 0]] u (MapDoc c l s at0 #[.int .i64 nm, .int .i64 mi, .int .i64 x2, .int .i64 fs, .int .i64 cnt, .int .i64 en, .int .i64 gw, .int .i64 gh, .int .i64 d, .int .i64 a, .bool lf, .bool tp, .int .i64 0, .int .i64 0] C KD PL u))
    (KZ0 : ∀ u, Calls Tryz.prog 15 #[.agg #[.int .i64 nm, .int .i64 mi, .int .i64 x2, .int .i64 fs, .int .i64 cnt, .int .i64 en, .int .i64 gw, .int .i64 gh, .int .i64 d, .int .i64 a, .bool lf, .bool tp, .int .i64 0, .int .i64 0]] u fun e w' => e = .returned (.int .i64 sz) ∧ u.grownBy w' none) :
    Calls Tryz.prog 3 #[.string s, .int .u8 n] W fun e w' => e = .returned (.bool true) ∧ W.grownBy w' none := by
  have d1 : decide ((900 : Int) < (s.size : Int)) = false := decide_eq_false (by omega)
  have d2 : decide ((300 : Int) < (cnt : Int)) = false := decide_eq_false (by omega)
  have KR := Lib.hid KR0
  have KH := Lib.hid KH0
  have KM := Lib.hid KM0
  have KDc := Lib.hid KD0
  have KZ := Lib.hid KZ0
  have HC := Lib.hid hC
  have HIN := Lib.hid hin
  have HPL := Lib.hid hPL
  have HCZ := Lib.hid hCz
  have HX := Lib.hid hmf
  clear KR0 KH0 KM0 KD0 KZ0 hc hC hin hPL hCz hmf
  go_enter Tryz.func3, Tryz.ntmps3
  go_wp2_with fail
  refine (KR.out _).mono ?_
  rintro e w1 ⟨rfl, g1⟩
  have HB1 : (w1.alloc (.cells #[.int .i64 nm, .int .i64 mi, .int .i64 x2, .int .i64 fs, .int .i64 cnt, .int .i64 en, .int .i64 gw, .int .i64 gh, .int .i64 d, .int .i64 a, .bool lf, .bool tp, .int .i64 0, .int .i64 0] 23)).heap[w1.heap.size]? = some (.cells #[.int .i64 nm, .int .i64 mi, .int .i64 x2, .int .i64 fs, .int .i64 cnt, .int .i64 en, .int .i64 gw, .int .i64 gh, .int .i64 d, .int .i64 a, .bool lf, .bool tp, .int .i64 0, .int .i64 0] 23 (0, 0)) := blk_at
  have G1 := Lib.hid (gb_trans g1 (World.grownBy_alloc w1 (.cells #[.int .i64 nm, .int .i64 mi, .int .i64 x2, .int .i64 fs, .int .i64 cnt, .int .i64 en, .int .i64 gw, .int .i64 gh, .int .i64 d, .int .i64 a, .bool lf, .bool tp, .int .i64 0, .int .i64 0] 23) none))
  go_wp2_with fail
  obtain ⟨wb, hwb⟩ : ∃ q, w1.heap.size = q := ⟨_, rfl⟩
  rw [hwb] at HB1 ⊢
  have HWB := Lib.hid (show W.heap.size ≤ wb from by rw [← hwb]; exact g1.size)
  generalize w1.alloc (.cells #[.int .i64 nm, .int .i64 mi, .int .i64 x2, .int .i64 fs, .int .i64 cnt, .int .i64 en, .int .i64 gw, .int .i64 gh, .int .i64 d, .int .i64 a, .bool lf, .bool tp, .int .i64 0, .int .i64 0] 23) = w2 at HB1 G1 ⊢
  have HB2 := Lib.hid HB1
  clear HB1 hwb g1 KR
  refine (new_calls 0 0 2000 10000 _).mono ?_
  rintro e w3 ⟨l, rfl, L3, g3, hll⟩
  have hwl : wb < l := Nat.lt_of_lt_of_le (blk_lt HB2.out) hll
  have HB3 := Lib.hid (old0 g3 HB2.out (blk_lt HB2.out) (by simp))
  have HG3 := Lib.hid (gb_trans G1.out g3)
  have HL3 := Lib.hid (show Led l LT.ls w3 from L3)
  clear L3 g3 hll HB2 G1
  go_wp2_with fail
  refine (Sr.snew_calls l s _ (by omega)).mono ?_
  rintro e w4 ⟨c, rfl, S4, g4, hcc⟩
  have hlc : l < c := Nat.lt_of_lt_of_le HL3.out.lt hcc
  have HS4 := Lib.hid (S4 HL3.out.lt)
  have HB4 := Lib.hid (old0 g4 HB3.out (blk_lt HB3.out) (by simp))
  have HG4 := Lib.hid (gb_trans HG3.out g4)
  have HL4 := Lib.hid (HL3.out.grown g4 (by simp))
  clear S4 g4 hcc HB3 HG3 HL3
  go_wp2_with fail
  refine (KH.out c l _ HS4.out HL4.out).mono ?_
  rintro e w5 ⟨rfl, ⟨S5, L5⟩, t5⟩
  have HS5 := Lib.hid S5
  have HL5 := Lib.hid L5
  have HB5 := Lib.hid ((t5.block wb (blk_lt HB4.out) (by simp; omega)).trans HB4.out)
  have HT5 := Lib.hid ((Tn.gb HG4.out (S := [c, l]) (by simp)).trans t5)
  clear S5 L5 t5 HS4 HL4 HB4 HG4 KH
  go_wp2_with fail
  obtain ⟨hb, hhb⟩ : ∃ q, w5.heap.size = q := ⟨_, rfl⟩
  have hcb : c < hb := hhb ▸ HS5.out.lt
  have HK0 : LK wb w5.heap.size nm x2 fs cnt en gw gh d a mi mp lf tp (((w5.alloc (.cells #[.int .i64 nm, .bool mp, .int .i64 x2, .int .i64 fs, .int .i64 cnt, .int .i64 en, .int .i64 gw, .int .i64 gh, .int .i64 d, .int .i64 a, .bool lf, .bool tp] 35)).alloc (.cells #[.int .i64 0, .int .i64 0, .int .i64 0] 37))) := ⟨blk_al (blk_al HB5.out _) _, blk_al blk_at _, by rw [← size_alloc w5 (.cells #[.int .i64 nm, .bool mp, .int .i64 x2, .int .i64 fs, .int .i64 cnt, .int .i64 en, .int .i64 gw, .int .i64 gh, .int .i64 d, .int .i64 a, .bool lf, .bool tp] 35)]; exact blk_at⟩
  have HT6 := Lib.hid (show Tn W (((w5.alloc (.cells #[.int .i64 nm, .bool mp, .int .i64 x2, .int .i64 fs, .int .i64 cnt, .int .i64 en, .int .i64 gw, .int .i64 gh, .int .i64 d, .int .i64 a, .bool lf, .bool tp] 35)).alloc (.cells #[.int .i64 0, .int .i64 0, .int .i64 0] 37))) [c, l] from Tn.al (Tn.al HT5.out))
  have HS6 := Lib.hid (show Sr.So c l s 18 0 s.size (((w5.alloc (.cells #[.int .i64 nm, .bool mp, .int .i64 x2, .int .i64 fs, .int .i64 cnt, .int .i64 en, .int .i64 gw, .int .i64 gh, .int .i64 d, .int .i64 a, .bool lf, .bool tp] 35)).alloc (.cells #[.int .i64 0, .int .i64 0, .int .i64 0] 37))) from so_al (so_al HS5.out))
  have HL6 := Lib.hid (show Led l (LT.work 1).1.ls (((w5.alloc (.cells #[.int .i64 nm, .bool mp, .int .i64 x2, .int .i64 fs, .int .i64 cnt, .int .i64 en, .int .i64 gw, .int .i64 gh, .int .i64 d, .int .i64 a, .bool lf, .bool tp] 35)).alloc (.cells #[.int .i64 0, .int .i64 0, .int .i64 0] 37))) from led_al (led_al HL5.out))
  rw [hhb] at HK0 ⊢
  have HWH := Lib.hid (show W.heap.size ≤ hb from by rw [← hhb]; exact HT5.out.size)
  generalize ((w5.alloc (.cells #[.int .i64 nm, .bool mp, .int .i64 x2, .int .i64 fs, .int .i64 cnt, .int .i64 en, .int .i64 gw, .int .i64 gh, .int .i64 d, .int .i64 a, .bool lf, .bool tp] 35)).alloc (.cells #[.int .i64 0, .int .i64 0, .int .i64 0] 37)) = w6 at HK0 HT6 HS6 HL6 ⊢
  have HK6 := Lib.hid HK0
  clear HK0 HT5 HS5 HL5 HB5 hhb
  refine (KM.out c l _ HS6.out HL6.out).mono ?_
  rintro e w7 ⟨pv, P, y, rfl, S7, hy, L7, P7, PS, CP, t7, hpv⟩
  have HK7 := Lib.hid (HK6.out.turned t7 (by simp; omega) (by simp; omega) (by simp; omega))
  have HL7 := Lib.hid L7
  have HS7 := Lib.hid S7
  have HT7 := Lib.hid (HT6.out.trans t7)
  have HY := Lib.hid hy
  have HP7 := Lib.hid P7
  have HPS := Lib.hid PS
  have HCP := Lib.hid CP
  clear t7 L7 S7 P7 PS CP HS6 HL6 HK6 HT6 KM hy
  have HPV := Lib.hid hpv
  clear hpv
  have w_0 : w7.cell? ⟨wb, 0, none⟩ = some (.int .i64 nm) := blk_cell HK7.out.w0 0
  have w_1 : w7.cell? ⟨wb, 1, none⟩ = some (.int .i64 mi) := blk_cell HK7.out.w0 1
  have w_2 : w7.cell? ⟨wb, 2, none⟩ = some (.int .i64 x2) := blk_cell HK7.out.w0 2
  have w_3 : w7.cell? ⟨wb, 3, none⟩ = some (.int .i64 fs) := blk_cell HK7.out.w0 3
  have w_4 : w7.cell? ⟨wb, 4, none⟩ = some (.int .i64 cnt) := blk_cell HK7.out.w0 4
  have w_5 : w7.cell? ⟨wb, 5, none⟩ = some (.int .i64 en) := blk_cell HK7.out.w0 5
  have w_6 : w7.cell? ⟨wb, 6, none⟩ = some (.int .i64 gw) := blk_cell HK7.out.w0 6
  have w_7 : w7.cell? ⟨wb, 7, none⟩ = some (.int .i64 gh) := blk_cell HK7.out.w0 7
  have w_8 : w7.cell? ⟨wb, 8, none⟩ = some (.int .i64 d) := blk_cell HK7.out.w0 8
  have w_9 : w7.cell? ⟨wb, 9, none⟩ = some (.int .i64 a) := blk_cell HK7.out.w0 9
  have w_10 : w7.cell? ⟨wb, 10, none⟩ = some (.bool lf) := blk_cell HK7.out.w0 10
  have w_11 : w7.cell? ⟨wb, 11, none⟩ = some (.bool tp) := blk_cell HK7.out.w0 11
  have w_12 : w7.cell? ⟨wb, 12, none⟩ = some (.int .i64 0) := blk_cell HK7.out.w0 12
  have w_13 : w7.cell? ⟨wb, 13, none⟩ = some (.int .i64 0) := blk_cell HK7.out.w0 13
  have h_0 : w7.cell? ⟨hb, 0, none⟩ = some (.int .i64 nm) := blk_cell HK7.out.h 0
  have h_1 : w7.cell? ⟨hb, 1, none⟩ = some (.bool mp) := blk_cell HK7.out.h 1
  have h_2 : w7.cell? ⟨hb, 2, none⟩ = some (.int .i64 x2) := blk_cell HK7.out.h 2
  have h_3 : w7.cell? ⟨hb, 3, none⟩ = some (.int .i64 fs) := blk_cell HK7.out.h 3
  have h_4 : w7.cell? ⟨hb, 4, none⟩ = some (.int .i64 cnt) := blk_cell HK7.out.h 4
  have h_5 : w7.cell? ⟨hb, 5, none⟩ = some (.int .i64 en) := blk_cell HK7.out.h 5
  have h_6 : w7.cell? ⟨hb, 6, none⟩ = some (.int .i64 gw) := blk_cell HK7.out.h 6
  have h_7 : w7.cell? ⟨hb, 7, none⟩ = some (.int .i64 gh) := blk_cell HK7.out.h 7
  have h_8 : w7.cell? ⟨hb, 8, none⟩ = some (.int .i64 d) := blk_cell HK7.out.h 8
  have h_9 : w7.cell? ⟨hb, 9, none⟩ = some (.int .i64 a) := blk_cell HK7.out.h 9
  have h_10 : w7.cell? ⟨hb, 10, none⟩ = some (.bool lf) := blk_cell HK7.out.h 10
  have h_11 : w7.cell? ⟨hb, 11, none⟩ = some (.bool tp) := blk_cell HK7.out.h 11
  have f_0 : w7.cell? ⟨hb + 1, 0, none⟩ = some (.int .i64 0) := blk_cell HK7.out.f 0
  have f_1 : w7.cell? ⟨hb + 1, 1, none⟩ = some (.int .i64 0) := blk_cell HK7.out.f 1
  have f_2 : w7.cell? ⟨hb + 1, 2, none⟩ = some (.int .i64 0) := blk_cell HK7.out.f 2
  have lw := blk_lt HK7.out.w0
  have lh := blk_lt HK7.out.h
  have lf' := blk_lt HK7.out.f
  go_wp2_with fail
  have hcw : c < w7.heap.size := HS7.out.lt
  have HCW := Lib.hid hcw
  obtain ⟨gk, hgk⟩ : ∃ q, w7.heap.size = q := ⟨_, rfl⟩
  have hgf : (w7.alloc (.cells #[.int .i64 0, .int .i64 0, .int .i64 0] 37)).heap[w7.heap.size]? = some (.cells #[.int .i64 0, .int .i64 0, .int .i64 0] 37 (0, 0)) := blk_at
  have hk8 := HK7.out.turned (Tn.gb (World.grownBy_alloc w7 (.cells #[.int .i64 0, .int .i64 0, .int .i64 0] 37) none) (S := []) (by simp)) (by simp) (by simp) (by simp)
  have hl8 := led_al (o := .cells #[.int .i64 0, .int .i64 0, .int .i64 0] 37) HL7.out
  have ht8 := Tn.al (o := .cells #[.int .i64 0, .int .i64 0, .int .i64 0] 37) HT7.out
  have hg8 : w7.grownBy (w7.alloc (.cells #[.int .i64 0, .int .i64 0, .int .i64 0] 37)) none := World.grownBy_alloc w7 _ none
  have hwg : W.heap.size ≤ gk := by rw [← hgk]; exact HT7.out.size
  have hhg : hb + 1 < gk := by rw [← hgk]; exact blk_lt HK7.out.f
  rw [hgk] at hgf ⊢
  generalize w7.alloc (.cells #[.int .i64 0, .int .i64 0, .int .i64 0] 37) = w8 at hgf hk8 hl8 ht8 hg8 ⊢
  have HF8 := Lib.hid hgf
  have HK8 := Lib.hid hk8
  have HL8 := Lib.hid hl8
  have HT8 := Lib.hid ht8
  have HG78 := Lib.hid hg8
  clear w_0 w_1 w_2 w_3 w_4 w_5 w_6 w_7 w_8 w_9 w_10 w_11 w_12 w_13 h_0 h_1 h_2 h_3 h_4 h_5 h_6 h_7 h_8 h_9 h_10 h_11 f_0 f_1 f_2 lw lh lf'
  clear hgf hk8 hl8 ht8 hg8 hgk HK7 HL7 HT7
  refine (KDc.out c l _ (Nat.lt_of_lt_of_le HCW.out HG78.out.size) HL8.out.lt).mono ?_
  rintro e w8' ⟨la, ln, lc, Q, rfl, Q8, QS, DP, g8⟩
  have hk9 := HK8.out.turned (Tn.gb g8 (S := []) (by simp)) (by simp) (by simp) (by simp)
  have hf9 := old0 g8 HF8.out (blk_lt HF8.out) (by simp)
  have hl9 := HL8.out.grown g8 (by simp)
  have ht9 := HT8.out.trans (Tn.gb g8 (S := [c, l]) (by simp))
  have HQ8 := Lib.hid Q8
  have HQS := Lib.hid QS
  have HDP := Lib.hid DP
  clear Q8 QS DP
  have hgv : gk < w8'.heap.size := blk_lt hf9
  have HG79' := Lib.hid (gb_trans HG78.out g8)
  have HK9' := Lib.hid hk9
  have HF9' := Lib.hid hf9
  have HL9' := Lib.hid hl9
  have HT9' := Lib.hid ht9
  clear hk9 hf9 hl9 ht9 g8 HK8 HF8 HL8 HT8 HG78 KDc
  have v_0 : w8'.cell? ⟨gk, 0, none⟩ = some (.int .i64 0) := blk_cell HF9'.out 0
  have v_1 : w8'.cell? ⟨gk, 1, none⟩ = some (.int .i64 0) := blk_cell HF9'.out 1
  have v_2 : w8'.cell? ⟨gk, 2, none⟩ = some (.int .i64 0) := blk_cell HF9'.out 2
  have w_0 : w8'.cell? ⟨wb, 0, none⟩ = some (.int .i64 nm) := blk_cell HK9'.out.w0 0
  have w_1 : w8'.cell? ⟨wb, 1, none⟩ = some (.int .i64 mi) := blk_cell HK9'.out.w0 1
  have w_2 : w8'.cell? ⟨wb, 2, none⟩ = some (.int .i64 x2) := blk_cell HK9'.out.w0 2
  have w_3 : w8'.cell? ⟨wb, 3, none⟩ = some (.int .i64 fs) := blk_cell HK9'.out.w0 3
  have w_4 : w8'.cell? ⟨wb, 4, none⟩ = some (.int .i64 cnt) := blk_cell HK9'.out.w0 4
  have w_5 : w8'.cell? ⟨wb, 5, none⟩ = some (.int .i64 en) := blk_cell HK9'.out.w0 5
  have w_6 : w8'.cell? ⟨wb, 6, none⟩ = some (.int .i64 gw) := blk_cell HK9'.out.w0 6
  have w_7 : w8'.cell? ⟨wb, 7, none⟩ = some (.int .i64 gh) := blk_cell HK9'.out.w0 7
  have w_8 : w8'.cell? ⟨wb, 8, none⟩ = some (.int .i64 d) := blk_cell HK9'.out.w0 8
  have w_9 : w8'.cell? ⟨wb, 9, none⟩ = some (.int .i64 a) := blk_cell HK9'.out.w0 9
  have w_10 : w8'.cell? ⟨wb, 10, none⟩ = some (.bool lf) := blk_cell HK9'.out.w0 10
  have w_11 : w8'.cell? ⟨wb, 11, none⟩ = some (.bool tp) := blk_cell HK9'.out.w0 11
  have w_12 : w8'.cell? ⟨wb, 12, none⟩ = some (.int .i64 0) := blk_cell HK9'.out.w0 12
  have w_13 : w8'.cell? ⟨wb, 13, none⟩ = some (.int .i64 0) := blk_cell HK9'.out.w0 13
  have h_0 : w8'.cell? ⟨hb, 0, none⟩ = some (.int .i64 nm) := blk_cell HK9'.out.h 0
  have h_1 : w8'.cell? ⟨hb, 1, none⟩ = some (.bool mp) := blk_cell HK9'.out.h 1
  have h_2 : w8'.cell? ⟨hb, 2, none⟩ = some (.int .i64 x2) := blk_cell HK9'.out.h 2
  have h_3 : w8'.cell? ⟨hb, 3, none⟩ = some (.int .i64 fs) := blk_cell HK9'.out.h 3
  have h_4 : w8'.cell? ⟨hb, 4, none⟩ = some (.int .i64 cnt) := blk_cell HK9'.out.h 4
  have h_5 : w8'.cell? ⟨hb, 5, none⟩ = some (.int .i64 en) := blk_cell HK9'.out.h 5
  have h_6 : w8'.cell? ⟨hb, 6, none⟩ = some (.int .i64 gw) := blk_cell HK9'.out.h 6
  have h_7 : w8'.cell? ⟨hb, 7, none⟩ = some (.int .i64 gh) := blk_cell HK9'.out.h 7
  have h_8 : w8'.cell? ⟨hb, 8, none⟩ = some (.int .i64 d) := blk_cell HK9'.out.h 8
  have h_9 : w8'.cell? ⟨hb, 9, none⟩ = some (.int .i64 a) := blk_cell HK9'.out.h 9
  have h_10 : w8'.cell? ⟨hb, 10, none⟩ = some (.bool lf) := blk_cell HK9'.out.h 10
  have h_11 : w8'.cell? ⟨hb, 11, none⟩ = some (.bool tp) := blk_cell HK9'.out.h 11
  have f_0 : w8'.cell? ⟨hb + 1, 0, none⟩ = some (.int .i64 0) := blk_cell HK9'.out.f 0
  have f_1 : w8'.cell? ⟨hb + 1, 1, none⟩ = some (.int .i64 0) := blk_cell HK9'.out.f 1
  have f_2 : w8'.cell? ⟨hb + 1, 2, none⟩ = some (.int .i64 0) := blk_cell HK9'.out.f 2
  have lw := blk_lt HK9'.out.w0
  have lh := blk_lt HK9'.out.h
  have lf' := blk_lt HK9'.out.f
  go_upto_region 11 with fail
  obtain ⟨vk, hvk⟩ : ∃ q, w8'.heap.size = q := ⟨_, rfl⟩
  have hq9 := HQS.out _ _ HQ8.out (Tn.gb (World.grownBy_alloc w8' (.cells #[.int .i64 at0, .slice la ln lc, .int .i64 0, .int .i64 0] 45) none) (by simp))
  have hv9 : (w8'.alloc (.cells #[.int .i64 at0, .slice la ln lc, .int .i64 0, .int .i64 0] 45)).heap[w8'.heap.size]? = some (.cells #[.int .i64 at0, .slice la ln lc, .int .i64 0, .int .i64 0] 45 (0, 0)) := blk_at
  have hk9 := HK9'.out.turned (Tn.gb (World.grownBy_alloc w8' (.cells #[.int .i64 at0, .slice la ln lc, .int .i64 0, .int .i64 0] 45) none) (S := []) (by simp)) (by simp) (by simp) (by simp)
  have hf9 : (w8'.alloc (.cells #[.int .i64 at0, .slice la ln lc, .int .i64 0, .int .i64 0] 45)).heap[gk]? = some (.cells #[.int .i64 0, .int .i64 0, .int .i64 0] 37 (0, 0)) := blk_al HF9'.out _
  have hl9 := led_al (o := .cells #[.int .i64 at0, .slice la ln lc, .int .i64 0, .int .i64 0] 45) HL9'.out
  have ht9 := Tn.al (o := .cells #[.int .i64 at0, .slice la ln lc, .int .i64 0, .int .i64 0] 45) HT9'.out
  have hg9 : w7.grownBy (w8'.alloc (.cells #[.int .i64 at0, .slice la ln lc, .int .i64 0, .int .i64 0] 45)) none := gb_trans HG79'.out (World.grownBy_alloc _ _ none)
  rw [hvk] at hv9 hgv ⊢
  clear w_0 w_1 w_2 w_3 w_4 w_5 w_6 w_7 w_8 w_9 w_10 w_11 w_12 w_13 h_0 h_1 h_2 h_3 h_4 h_5 h_6 h_7 h_8 h_9 h_10 h_11 f_0 f_1 f_2 lw lh lf'
  clear v_0 v_1 v_2
  generalize w8'.alloc (.cells #[.int .i64 at0, .slice la ln lc, .int .i64 0, .int .i64 0] 45) = w9 at hq9 hv9 hk9 hf9 hl9 ht9 hg9 ⊢
  have HV9 := Lib.hid hv9
  have HQ9 := Lib.hid hq9
  clear hq9 HQ8
  have HK9 := Lib.hid hk9
  have HF9 := Lib.hid hf9
  have HL9 := Lib.hid hl9
  have HT9 := Lib.hid ht9
  have HG79 := Lib.hid hg9
  have HG9 := Lib.hid (show W.grownBy w9 none from tn_gb ht9 (by have := HWH.out; have := HWB.out; intro x hx; simp at hx; omega))
  clear hv9 hk9 hf9 hl9 ht9 hg9 HG79' HK9' HF9' HL9' HT9' hvk
  have w_0 : w9.cell? ⟨wb, 0, none⟩ = some (.int .i64 nm) := blk_cell HK9.out.w0 0
  have w_1 : w9.cell? ⟨wb, 1, none⟩ = some (.int .i64 mi) := blk_cell HK9.out.w0 1
  have w_2 : w9.cell? ⟨wb, 2, none⟩ = some (.int .i64 x2) := blk_cell HK9.out.w0 2
  have w_3 : w9.cell? ⟨wb, 3, none⟩ = some (.int .i64 fs) := blk_cell HK9.out.w0 3
  have w_4 : w9.cell? ⟨wb, 4, none⟩ = some (.int .i64 cnt) := blk_cell HK9.out.w0 4
  have w_5 : w9.cell? ⟨wb, 5, none⟩ = some (.int .i64 en) := blk_cell HK9.out.w0 5
  have w_6 : w9.cell? ⟨wb, 6, none⟩ = some (.int .i64 gw) := blk_cell HK9.out.w0 6
  have w_7 : w9.cell? ⟨wb, 7, none⟩ = some (.int .i64 gh) := blk_cell HK9.out.w0 7
  have w_8 : w9.cell? ⟨wb, 8, none⟩ = some (.int .i64 d) := blk_cell HK9.out.w0 8
  have w_9 : w9.cell? ⟨wb, 9, none⟩ = some (.int .i64 a) := blk_cell HK9.out.w0 9
  have w_10 : w9.cell? ⟨wb, 10, none⟩ = some (.bool lf) := blk_cell HK9.out.w0 10
  have w_11 : w9.cell? ⟨wb, 11, none⟩ = some (.bool tp) := blk_cell HK9.out.w0 11
  have w_12 : w9.cell? ⟨wb, 12, none⟩ = some (.int .i64 0) := blk_cell HK9.out.w0 12
  have w_13 : w9.cell? ⟨wb, 13, none⟩ = some (.int .i64 0) := blk_cell HK9.out.w0 13
  have h_0 : w9.cell? ⟨hb, 0, none⟩ = some (.int .i64 nm) := blk_cell HK9.out.h 0
  have h_1 : w9.cell? ⟨hb, 1, none⟩ = some (.bool mp) := blk_cell HK9.out.h 1
  have h_2 : w9.cell? ⟨hb, 2, none⟩ = some (.int .i64 x2) := blk_cell HK9.out.h 2
  have h_3 : w9.cell? ⟨hb, 3, none⟩ = some (.int .i64 fs) := blk_cell HK9.out.h 3
  have h_4 : w9.cell? ⟨hb, 4, none⟩ = some (.int .i64 cnt) := blk_cell HK9.out.h 4
  have h_5 : w9.cell? ⟨hb, 5, none⟩ = some (.int .i64 en) := blk_cell HK9.out.h 5
  have h_6 : w9.cell? ⟨hb, 6, none⟩ = some (.int .i64 gw) := blk_cell HK9.out.h 6
  have h_7 : w9.cell? ⟨hb, 7, none⟩ = some (.int .i64 gh) := blk_cell HK9.out.h 7
  have h_8 : w9.cell? ⟨hb, 8, none⟩ = some (.int .i64 d) := blk_cell HK9.out.h 8
  have h_9 : w9.cell? ⟨hb, 9, none⟩ = some (.int .i64 a) := blk_cell HK9.out.h 9
  have h_10 : w9.cell? ⟨hb, 10, none⟩ = some (.bool lf) := blk_cell HK9.out.h 10
  have h_11 : w9.cell? ⟨hb, 11, none⟩ = some (.bool tp) := blk_cell HK9.out.h 11
  have f_0 : w9.cell? ⟨hb + 1, 0, none⟩ = some (.int .i64 0) := blk_cell HK9.out.f 0
  have f_1 : w9.cell? ⟨hb + 1, 1, none⟩ = some (.int .i64 0) := blk_cell HK9.out.f 1
  have f_2 : w9.cell? ⟨hb + 1, 2, none⟩ = some (.int .i64 0) := blk_cell HK9.out.f 2
  have lw := blk_lt HK9.out.w0
  have lh := blk_lt HK9.out.h
  have lf' := blk_lt HK9.out.f
  have v_0 : w9.cell? ⟨gk, 0, none⟩ = some (.int .i64 0) := blk_cell HF9.out 0
  have v_1 : w9.cell? ⟨gk, 1, none⟩ = some (.int .i64 0) := blk_cell HF9.out 1
  have v_2 : w9.cell? ⟨gk, 2, none⟩ = some (.int .i64 0) := blk_cell HF9.out 2
  have m_0 : w9.cell? ⟨vk, 0, none⟩ = some (.int .i64 at0) := blk_cell HV9.out 0
  have m_1 : w9.cell? ⟨vk, 1, none⟩ = some (.slice la ln lc) := blk_cell HV9.out 1
  have m_2 : w9.cell? ⟨vk, 2, none⟩ = some (.int .i64 0) := blk_cell HV9.out 2
  have m_3 : w9.cell? ⟨vk, 3, none⟩ = some (.int .i64 0) := blk_cell HV9.out 3
  have lv := blk_lt HF9.out
  have lm := blk_lt HV9.out
  have HS9 := Lib.hid (HS7.out.grown HG79.out (by simp))
  have HP9 := Lib.hid (HPS.out _ _ HP7.out (Tn.gb HG79.out (by simp)))
  clear HS7 HP7 HG79 hcw
  obtain ⟨r8, hr8⟩ : ∃ r : Int, (x2 : Int).tmod 8 = r := ⟨_, rfl⟩
  have hr8' : (x2 : Int) % 8 = r8 := by rw [← hr8, Int.tmod_eq_emod_of_nonneg (by omega)]
  have hr8w : IntKind.i64.wrap r8 = r8 := IntWalk.i64_in _ (by omega)
  have hx8 : (r8 == 1) = mf := by rw [← HX.out, hr8']
  obtain ⟨m, hm⟩ : ∃ m : Nat, n % 20 = m := ⟨_, rfl⟩
  have hm19 : m ≤ 19 := by omega
  have hmt : (n : Int).tmod 20 = m := by rw [Int.tmod_eq_emod_of_nonneg (by omega)]; omega
  have hmt' : (n : Int) % 20 = m := by omega
  have hmw : IntKind.i64.wrap (m : Int) = m := IntWalk.i64_in _ (by omega)
  have hnw : IntKind.i64.wrap (n : Int) = n := IntWalk.i64_in _ (by omega)
  have KA := Lib.hid (Sr.at_calls c l s at0 0 s.size w9 HS9.out)
  clear hm HX
  rcases HPV.out with ⟨rfl, p, rfl⟩ | ⟨rfl, rfl⟩
  all_goals
    go_wp2_with fail
    go_quiet ((go_at_call 12; exact Calls.quiet_of_same ((Sr.at_calls c l s at0 0 s.size _ (by first | exact HS9.out | exact HS9.out.grown (gb_drewN _ _ none) (by simp))).mono (fun _ _ ⟨h1, h2⟩ => And.intro h1 h2.symm))))
    have gq := gb_drewN w9 nq none
    have HLQ := Lib.hid (show LQ W c l wb hb vk Q nm x2 fs cnt en gw gh d a mi mp lf tp at0 la ln lc (w9.drewN nq) from ⟨HK9.out.turned (Tn.gb gq (S := []) (by simp)) (by simp) (by simp) (by simp), old0 gq HV9.out (blk_lt HV9.out) (by simp), HQS.out _ _ HQ9.out (Tn.gb gq (by simp)), HT9.out.trans (Tn.gb gq (by simp))⟩)
    have HSP := Lib.hid (show SP c l s at0 21 P (w9.drewN nq) from ⟨HS9.out.grown gq (by simp), ⟨_, HY.out, HL9.out.grown gq (by simp)⟩, HPS.out _ _ HP9.out (Tn.gb gq (by simp))⟩)
    generalize w9.drewN nq = wA at HLQ HSP ⊢
    clear gq KA HK9 HV9 HS9 HY HL9 HP9 HQ9 HT9 HF9 HG9 v_0 v_1 v_2 m_0 m_1 m_2 m_3 lv lm
    clear w_0 w_1 w_2 w_3 w_4 w_5 w_6 w_7 w_8 w_9 w_10 w_11 w_12 w_13 h_0 h_1 h_2 h_3 h_4 h_5 h_6 h_7 h_8 h_9 h_10 h_11 f_0 f_1 f_2 lw lh lf'
    have w_0 : wA.cell? ⟨wb, 0, none⟩ = some (.int .i64 nm) := blk_cell HLQ.out.k.w0 0
    have w_1 : wA.cell? ⟨wb, 1, none⟩ = some (.int .i64 mi) := blk_cell HLQ.out.k.w0 1
    have w_2 : wA.cell? ⟨wb, 2, none⟩ = some (.int .i64 x2) := blk_cell HLQ.out.k.w0 2
    have w_3 : wA.cell? ⟨wb, 3, none⟩ = some (.int .i64 fs) := blk_cell HLQ.out.k.w0 3
    have w_4 : wA.cell? ⟨wb, 4, none⟩ = some (.int .i64 cnt) := blk_cell HLQ.out.k.w0 4
    have w_5 : wA.cell? ⟨wb, 5, none⟩ = some (.int .i64 en) := blk_cell HLQ.out.k.w0 5
    have w_6 : wA.cell? ⟨wb, 6, none⟩ = some (.int .i64 gw) := blk_cell HLQ.out.k.w0 6
    have w_7 : wA.cell? ⟨wb, 7, none⟩ = some (.int .i64 gh) := blk_cell HLQ.out.k.w0 7
    have w_8 : wA.cell? ⟨wb, 8, none⟩ = some (.int .i64 d) := blk_cell HLQ.out.k.w0 8
    have w_9 : wA.cell? ⟨wb, 9, none⟩ = some (.int .i64 a) := blk_cell HLQ.out.k.w0 9
    have w_10 : wA.cell? ⟨wb, 10, none⟩ = some (.bool lf) := blk_cell HLQ.out.k.w0 10
    have w_11 : wA.cell? ⟨wb, 11, none⟩ = some (.bool tp) := blk_cell HLQ.out.k.w0 11
    have w_12 : wA.cell? ⟨wb, 12, none⟩ = some (.int .i64 0) := blk_cell HLQ.out.k.w0 12
    have w_13 : wA.cell? ⟨wb, 13, none⟩ = some (.int .i64 0) := blk_cell HLQ.out.k.w0 13
    have h_0 : wA.cell? ⟨hb, 0, none⟩ = some (.int .i64 nm) := blk_cell HLQ.out.k.h 0
    have h_1 : wA.cell? ⟨hb, 1, none⟩ = some (.bool mp) := blk_cell HLQ.out.k.h 1
    have h_2 : wA.cell? ⟨hb, 2, none⟩ = some (.int .i64 x2) := blk_cell HLQ.out.k.h 2
    have h_3 : wA.cell? ⟨hb, 3, none⟩ = some (.int .i64 fs) := blk_cell HLQ.out.k.h 3
    have h_4 : wA.cell? ⟨hb, 4, none⟩ = some (.int .i64 cnt) := blk_cell HLQ.out.k.h 4
    have h_5 : wA.cell? ⟨hb, 5, none⟩ = some (.int .i64 en) := blk_cell HLQ.out.k.h 5
    have h_6 : wA.cell? ⟨hb, 6, none⟩ = some (.int .i64 gw) := blk_cell HLQ.out.k.h 6
    have h_7 : wA.cell? ⟨hb, 7, none⟩ = some (.int .i64 gh) := blk_cell HLQ.out.k.h 7
    have h_8 : wA.cell? ⟨hb, 8, none⟩ = some (.int .i64 d) := blk_cell HLQ.out.k.h 8
    have h_9 : wA.cell? ⟨hb, 9, none⟩ = some (.int .i64 a) := blk_cell HLQ.out.k.h 9
    have h_10 : wA.cell? ⟨hb, 10, none⟩ = some (.bool lf) := blk_cell HLQ.out.k.h 10
    have h_11 : wA.cell? ⟨hb, 11, none⟩ = some (.bool tp) := blk_cell HLQ.out.k.h 11
    have f_0 : wA.cell? ⟨hb + 1, 0, none⟩ = some (.int .i64 0) := blk_cell HLQ.out.k.f 0
    have f_1 : wA.cell? ⟨hb + 1, 1, none⟩ = some (.int .i64 0) := blk_cell HLQ.out.k.f 1
    have f_2 : wA.cell? ⟨hb + 1, 2, none⟩ = some (.int .i64 0) := blk_cell HLQ.out.k.f 2
    have lw := blk_lt HLQ.out.k.w0
    have lh := blk_lt HLQ.out.k.h
    have lf' := blk_lt HLQ.out.k.f
    have m_0 : wA.cell? ⟨vk, 0, none⟩ = some (.int .i64 at0) := blk_cell HLQ.out.v 0
    have m_1 : wA.cell? ⟨vk, 1, none⟩ = some (.slice la ln lc) := blk_cell HLQ.out.v 1
    have m_2 : wA.cell? ⟨vk, 2, none⟩ = some (.int .i64 0) := blk_cell HLQ.out.v 2
    have m_3 : wA.cell? ⟨vk, 3, none⟩ = some (.int .i64 0) := blk_cell HLQ.out.v 3
    have lm := blk_lt HLQ.out.v
    have hnw0 : wb ∉ [c, l] := by simp; omega
    have hnw1 : hb ∉ [c, l] := by simp; omega
    have hnw2 : hb + 1 ∉ [c, l] := by simp; omega
    have hnw3 : vk ∉ [c, l] := by simp; omega
    have HNW := Lib.hid (And.intro hnw0 (And.intro hnw1 (And.intro hnw2 hnw3)))
    have HWW := Lib.hid (show ∀ x, x ∈ [c, l] → W.heap.size ≤ x from by have := HWB.out; intro x hx; simp at hx; omega)
    have hav := HLQ.out.v
    clear hnw0 hnw1 hnw2 hnw3
    go_wp2_with fail
    go_loopg [14, 113] (m + 1) (fun q av iv wr => ∃ (o k : Nat), k ≤ m ∧ q = m + 1 - k ∧ av = .int .i64 o ∧ iv = .int .i64 k ∧ o ≤ s.size ∧ LQ W c l wb hb vk Q nm x2 fs cnt en gw gh d a mi mp lf tp at0 la ln lc wr ∧ SP c l s o (21 - k) P wr)
    case atStart => exact ⟨at0, 0, by omega, rfl, rfl, rfl, hat, HLQ.out, HSP.out⟩
    case round =>
      obtain ⟨o, k, hk, rfl, rfl, rfl, ho, J, JS⟩ := hrel
      have HJ := Lib.hid J
      have HJS := Lib.hid JS
      clear J JS HLQ HSP hav w_0 w_1 w_2 w_3 w_4 w_5 w_6 w_7 w_8 w_9 w_10 w_11 w_12 w_13 h_0 h_1 h_2 h_3 h_4 h_5 h_6 h_7 h_8 h_9 h_10 h_11 f_0 f_1 f_2 lw lh lf' m_0 m_1 m_2 m_3 lm
      have w_0 : wr.cell? ⟨wb, 0, none⟩ = some (.int .i64 nm) := blk_cell HJ.out.k.w0 0
      have w_1 : wr.cell? ⟨wb, 1, none⟩ = some (.int .i64 mi) := blk_cell HJ.out.k.w0 1
      have w_2 : wr.cell? ⟨wb, 2, none⟩ = some (.int .i64 x2) := blk_cell HJ.out.k.w0 2
      have w_3 : wr.cell? ⟨wb, 3, none⟩ = some (.int .i64 fs) := blk_cell HJ.out.k.w0 3
      have w_4 : wr.cell? ⟨wb, 4, none⟩ = some (.int .i64 cnt) := blk_cell HJ.out.k.w0 4
      have w_5 : wr.cell? ⟨wb, 5, none⟩ = some (.int .i64 en) := blk_cell HJ.out.k.w0 5
      have w_6 : wr.cell? ⟨wb, 6, none⟩ = some (.int .i64 gw) := blk_cell HJ.out.k.w0 6
      have w_7 : wr.cell? ⟨wb, 7, none⟩ = some (.int .i64 gh) := blk_cell HJ.out.k.w0 7
      have w_8 : wr.cell? ⟨wb, 8, none⟩ = some (.int .i64 d) := blk_cell HJ.out.k.w0 8
      have w_9 : wr.cell? ⟨wb, 9, none⟩ = some (.int .i64 a) := blk_cell HJ.out.k.w0 9
      have w_10 : wr.cell? ⟨wb, 10, none⟩ = some (.bool lf) := blk_cell HJ.out.k.w0 10
      have w_11 : wr.cell? ⟨wb, 11, none⟩ = some (.bool tp) := blk_cell HJ.out.k.w0 11
      have w_12 : wr.cell? ⟨wb, 12, none⟩ = some (.int .i64 0) := blk_cell HJ.out.k.w0 12
      have w_13 : wr.cell? ⟨wb, 13, none⟩ = some (.int .i64 0) := blk_cell HJ.out.k.w0 13
      have h_0 : wr.cell? ⟨hb, 0, none⟩ = some (.int .i64 nm) := blk_cell HJ.out.k.h 0
      have h_1 : wr.cell? ⟨hb, 1, none⟩ = some (.bool mp) := blk_cell HJ.out.k.h 1
      have h_2 : wr.cell? ⟨hb, 2, none⟩ = some (.int .i64 x2) := blk_cell HJ.out.k.h 2
      have h_3 : wr.cell? ⟨hb, 3, none⟩ = some (.int .i64 fs) := blk_cell HJ.out.k.h 3
      have h_4 : wr.cell? ⟨hb, 4, none⟩ = some (.int .i64 cnt) := blk_cell HJ.out.k.h 4
      have h_5 : wr.cell? ⟨hb, 5, none⟩ = some (.int .i64 en) := blk_cell HJ.out.k.h 5
      have h_6 : wr.cell? ⟨hb, 6, none⟩ = some (.int .i64 gw) := blk_cell HJ.out.k.h 6
      have h_7 : wr.cell? ⟨hb, 7, none⟩ = some (.int .i64 gh) := blk_cell HJ.out.k.h 7
      have h_8 : wr.cell? ⟨hb, 8, none⟩ = some (.int .i64 d) := blk_cell HJ.out.k.h 8
      have h_9 : wr.cell? ⟨hb, 9, none⟩ = some (.int .i64 a) := blk_cell HJ.out.k.h 9
      have h_10 : wr.cell? ⟨hb, 10, none⟩ = some (.bool lf) := blk_cell HJ.out.k.h 10
      have h_11 : wr.cell? ⟨hb, 11, none⟩ = some (.bool tp) := blk_cell HJ.out.k.h 11
      have f_0 : wr.cell? ⟨hb + 1, 0, none⟩ = some (.int .i64 0) := blk_cell HJ.out.k.f 0
      have f_1 : wr.cell? ⟨hb + 1, 1, none⟩ = some (.int .i64 0) := blk_cell HJ.out.k.f 1
      have f_2 : wr.cell? ⟨hb + 1, 2, none⟩ = some (.int .i64 0) := blk_cell HJ.out.k.f 2
      have lw := blk_lt HJ.out.k.w0
      have lh := blk_lt HJ.out.k.h
      have lf' := blk_lt HJ.out.k.f
      have m_0 : wr.cell? ⟨vk, 0, none⟩ = some (.int .i64 at0) := blk_cell HJ.out.v 0
      have m_1 : wr.cell? ⟨vk, 1, none⟩ = some (.slice la ln lc) := blk_cell HJ.out.v 1
      have m_2 : wr.cell? ⟨vk, 2, none⟩ = some (.int .i64 0) := blk_cell HJ.out.v 2
      have m_3 : wr.cell? ⟨vk, 3, none⟩ = some (.int .i64 0) := blk_cell HJ.out.v 3
      have lm := blk_lt HJ.out.v
      by_cases hkm : k < m
      · have hkm' : (k : Int) < (m : Int) := by omega
        obtain ⟨y, hy, hL⟩ := HJS.out.led
        have hy' : YL (20 - k + 1) y := by rw [show 20 - k + 1 = 21 - k from by omega]; exact hy
        have KP0 := HCP.out o (20 - k) y wr ho HJS.out.so hL hy' HJS.out.p
        have KQ0 := fun u (hu : Q u) => HDP.out o u ho hu
        clear hy hy' hL
        by_cases hkd : KD o = 0
        · have KP := Lib.hid (KP0.mono (fun e w' ⟨h1, h2, h3⟩ => (show e = Ending.returned (.tuple #[.agg #[.int .u8 (C o 0), .int .u8 (C o 1), .int .u8 (C o 2), .int .u8 (C o 3)], .agg #[.int .i64 0, .int .i64 0, .int .i64 0]]) ∧ (Sr.So c l s (o + sz) 0 s.size w' ∧ (∃ y', YL (20 - k) y' ∧ Led l y'.ls w') ∧ P w') ∧ Tn wr w' [c, l] from ⟨by rw [h1, hkd, HPL.out o hkd]; rfl, h2 hkd, h3⟩)))
          have KQ := Lib.hid (fun u (hu : Q u) => (KQ0 u hu).mono (fun e w' ⟨h1, h2⟩ => (show e = Ending.returned (.tuple #[.agg #[.int .u8 (C o 0), .int .u8 (C o 1), .int .u8 (C o 2), .int .u8 (C o 3)], .int .i64 0, .int .i64 0]) ∧ u.grownBy w' none from ⟨by rw [h1, hkd, HPL.out o hkd], h2⟩)))
          have hos := HIN.out o ho hkd
          have hwo : IntKind.i64.wrap ((o : Int) + (sz : Int)) = ((o + sz : Nat) : Int) := by rw [show (o : Int) + (sz : Int) = ((o + sz : Nat) : Int) from by omega]; exact IntWalk.i64_in _ (by omega)
          clear KP0 KQ0 hkd
          obtain ⟨c0, e0⟩ : ∃ z, C o 0 = z := ⟨_, rfl⟩
          obtain ⟨c1, e1⟩ : ∃ z, C o 1 = z := ⟨_, rfl⟩
          obtain ⟨c2, e2⟩ : ∃ z, C o 2 = z := ⟨_, rfl⟩
          obtain ⟨c3, e3⟩ : ∃ z, C o 3 = z := ⟨_, rfl⟩
          rw [e0, e1, e2, e3] at KP KQ
          clear e0 e1 e2 e3
          go_wp2_with fail
          refine KP.out.mono ?_
          rintro e w1' ⟨rfl, ⟨S1, L1, P1⟩, t1⟩
          have HJ1 := Lib.hid (HJ.out.turned HQS.out t1 HNW.out.1 HNW.out.2.1 HNW.out.2.2.1 HNW.out.2.2.2)
          have HS1 := Lib.hid (show SP c l s (o + sz) (20 - k) P w1' from ⟨S1, L1, P1⟩)
          clear S1 L1 P1 t1 HJ HJS w_0 w_1 w_2 w_3 w_4 w_5 w_6 w_7 w_8 w_9 w_10 w_11 w_12 w_13 h_0 h_1 h_2 h_3 h_4 h_5 h_6 h_7 h_8 h_9 h_10 h_11 f_0 f_1 f_2 lw lh lf' m_0 m_1 m_2 m_3 lm KP
          have w_0 : w1'.cell? ⟨wb, 0, none⟩ = some (.int .i64 nm) := blk_cell HJ1.out.k.w0 0
          have w_1 : w1'.cell? ⟨wb, 1, none⟩ = some (.int .i64 mi) := blk_cell HJ1.out.k.w0 1
          have w_2 : w1'.cell? ⟨wb, 2, none⟩ = some (.int .i64 x2) := blk_cell HJ1.out.k.w0 2
          have w_3 : w1'.cell? ⟨wb, 3, none⟩ = some (.int .i64 fs) := blk_cell HJ1.out.k.w0 3
          have w_4 : w1'.cell? ⟨wb, 4, none⟩ = some (.int .i64 cnt) := blk_cell HJ1.out.k.w0 4
          have w_5 : w1'.cell? ⟨wb, 5, none⟩ = some (.int .i64 en) := blk_cell HJ1.out.k.w0 5
          have w_6 : w1'.cell? ⟨wb, 6, none⟩ = some (.int .i64 gw) := blk_cell HJ1.out.k.w0 6
          have w_7 : w1'.cell? ⟨wb, 7, none⟩ = some (.int .i64 gh) := blk_cell HJ1.out.k.w0 7
          have w_8 : w1'.cell? ⟨wb, 8, none⟩ = some (.int .i64 d) := blk_cell HJ1.out.k.w0 8
          have w_9 : w1'.cell? ⟨wb, 9, none⟩ = some (.int .i64 a) := blk_cell HJ1.out.k.w0 9
          have w_10 : w1'.cell? ⟨wb, 10, none⟩ = some (.bool lf) := blk_cell HJ1.out.k.w0 10
          have w_11 : w1'.cell? ⟨wb, 11, none⟩ = some (.bool tp) := blk_cell HJ1.out.k.w0 11
          have w_12 : w1'.cell? ⟨wb, 12, none⟩ = some (.int .i64 0) := blk_cell HJ1.out.k.w0 12
          have w_13 : w1'.cell? ⟨wb, 13, none⟩ = some (.int .i64 0) := blk_cell HJ1.out.k.w0 13
          have h_0 : w1'.cell? ⟨hb, 0, none⟩ = some (.int .i64 nm) := blk_cell HJ1.out.k.h 0
          have h_1 : w1'.cell? ⟨hb, 1, none⟩ = some (.bool mp) := blk_cell HJ1.out.k.h 1
          have h_2 : w1'.cell? ⟨hb, 2, none⟩ = some (.int .i64 x2) := blk_cell HJ1.out.k.h 2
          have h_3 : w1'.cell? ⟨hb, 3, none⟩ = some (.int .i64 fs) := blk_cell HJ1.out.k.h 3
          have h_4 : w1'.cell? ⟨hb, 4, none⟩ = some (.int .i64 cnt) := blk_cell HJ1.out.k.h 4
          have h_5 : w1'.cell? ⟨hb, 5, none⟩ = some (.int .i64 en) := blk_cell HJ1.out.k.h 5
          have h_6 : w1'.cell? ⟨hb, 6, none⟩ = some (.int .i64 gw) := blk_cell HJ1.out.k.h 6
          have h_7 : w1'.cell? ⟨hb, 7, none⟩ = some (.int .i64 gh) := blk_cell HJ1.out.k.h 7
          have h_8 : w1'.cell? ⟨hb, 8, none⟩ = some (.int .i64 d) := blk_cell HJ1.out.k.h 8
          have h_9 : w1'.cell? ⟨hb, 9, none⟩ = some (.int .i64 a) := blk_cell HJ1.out.k.h 9
          have h_10 : w1'.cell? ⟨hb, 10, none⟩ = some (.bool lf) := blk_cell HJ1.out.k.h 10
          have h_11 : w1'.cell? ⟨hb, 11, none⟩ = some (.bool tp) := blk_cell HJ1.out.k.h 11
          have f_0 : w1'.cell? ⟨hb + 1, 0, none⟩ = some (.int .i64 0) := blk_cell HJ1.out.k.f 0
          have f_1 : w1'.cell? ⟨hb + 1, 1, none⟩ = some (.int .i64 0) := blk_cell HJ1.out.k.f 1
          have f_2 : w1'.cell? ⟨hb + 1, 2, none⟩ = some (.int .i64 0) := blk_cell HJ1.out.k.f 2
          have lw := blk_lt HJ1.out.k.w0
          have lh := blk_lt HJ1.out.k.h
          have lf' := blk_lt HJ1.out.k.f
          have m_0 : w1'.cell? ⟨vk, 0, none⟩ = some (.int .i64 at0) := blk_cell HJ1.out.v 0
          have m_1 : w1'.cell? ⟨vk, 1, none⟩ = some (.slice la ln lc) := blk_cell HJ1.out.v 1
          have m_2 : w1'.cell? ⟨vk, 2, none⟩ = some (.int .i64 0) := blk_cell HJ1.out.v 2
          have m_3 : w1'.cell? ⟨vk, 3, none⟩ = some (.int .i64 0) := blk_cell HJ1.out.v 3
          have lm := blk_lt HJ1.out.v
          go_wp2_with fail
          obtain ⟨ck, hck⟩ : ∃ q, w1'.heap.size = q := ⟨_, rfl⟩
          have hg2 : w1'.grownBy ((w1'.alloc (.cells #[.int .u8 c0, .int .u8 c1, .int .u8 c2, .int .u8 c3] 49)).alloc (.cells #[.int .i64 0, .int .i64 0, .int .i64 0] 37)) none := gb_trans (World.grownBy_alloc _ _ _) (World.grownBy_alloc _ _ _)
          have hc2 : ((w1'.alloc (.cells #[.int .u8 c0, .int .u8 c1, .int .u8 c2, .int .u8 c3] 49)).alloc (.cells #[.int .i64 0, .int .i64 0, .int .i64 0] 37)).heap[w1'.heap.size]? = some (.cells #[.int .u8 c0, .int .u8 c1, .int .u8 c2, .int .u8 c3] 49 (0, 0)) := blk_al blk_at _
          have hf2 : ((w1'.alloc (.cells #[.int .u8 c0, .int .u8 c1, .int .u8 c2, .int .u8 c3] 49)).alloc (.cells #[.int .i64 0, .int .i64 0, .int .i64 0] 37)).heap[w1'.heap.size + 1]? = some (.cells #[.int .i64 0, .int .i64 0, .int .i64 0] 37 (0, 0)) := by rw [← size_alloc w1' (.cells #[.int .u8 c0, .int .u8 c1, .int .u8 c2, .int .u8 c3] 49)]; exact blk_at
          have hj2 := HJ1.out.grown HQS.out hg2
          have hs2 := HS1.out.grown HPS.out hg2
          rw [hck] at hc2 hf2 ⊢
          generalize (w1'.alloc (.cells #[.int .u8 c0, .int .u8 c1, .int .u8 c2, .int .u8 c3] 49)).alloc (.cells #[.int .i64 0, .int .i64 0, .int .i64 0] 37) = w2' at hg2 hc2 hf2 hj2 hs2 ⊢
          have HJ2 := Lib.hid hj2
          have HS2 := Lib.hid hs2
          have HC2 := Lib.hid hc2
          have HF2 := Lib.hid hf2
          clear hg2 hc2 hf2 hj2 hs2 hck HJ1 HS1 w_0 w_1 w_2 w_3 w_4 w_5 w_6 w_7 w_8 w_9 w_10 w_11 w_12 w_13 h_0 h_1 h_2 h_3 h_4 h_5 h_6 h_7 h_8 h_9 h_10 h_11 f_0 f_1 f_2 lw lh lf' m_0 m_1 m_2 m_3 lm
          refine (KQ.out _ HJ2.out.q).mono ?_
          rintro e w3' ⟨rfl, g3⟩
          have HJ3 := Lib.hid (HJ2.out.grown HQS.out g3)
          have HS3 := Lib.hid (HS2.out.grown HPS.out g3)
          have hc3 := old0 g3 HC2.out (blk_lt HC2.out) (by simp)
          have hf3 := old0 g3 HF2.out (blk_lt HF2.out) (by simp)
          clear g3 HJ2 HS2 HC2 HF2 KQ
          have w_0 : w3'.cell? ⟨wb, 0, none⟩ = some (.int .i64 nm) := blk_cell HJ3.out.k.w0 0
          have w_1 : w3'.cell? ⟨wb, 1, none⟩ = some (.int .i64 mi) := blk_cell HJ3.out.k.w0 1
          have w_2 : w3'.cell? ⟨wb, 2, none⟩ = some (.int .i64 x2) := blk_cell HJ3.out.k.w0 2
          have w_3 : w3'.cell? ⟨wb, 3, none⟩ = some (.int .i64 fs) := blk_cell HJ3.out.k.w0 3
          have w_4 : w3'.cell? ⟨wb, 4, none⟩ = some (.int .i64 cnt) := blk_cell HJ3.out.k.w0 4
          have w_5 : w3'.cell? ⟨wb, 5, none⟩ = some (.int .i64 en) := blk_cell HJ3.out.k.w0 5
          have w_6 : w3'.cell? ⟨wb, 6, none⟩ = some (.int .i64 gw) := blk_cell HJ3.out.k.w0 6
          have w_7 : w3'.cell? ⟨wb, 7, none⟩ = some (.int .i64 gh) := blk_cell HJ3.out.k.w0 7
          have w_8 : w3'.cell? ⟨wb, 8, none⟩ = some (.int .i64 d) := blk_cell HJ3.out.k.w0 8
          have w_9 : w3'.cell? ⟨wb, 9, none⟩ = some (.int .i64 a) := blk_cell HJ3.out.k.w0 9
          have w_10 : w3'.cell? ⟨wb, 10, none⟩ = some (.bool lf) := blk_cell HJ3.out.k.w0 10
          have w_11 : w3'.cell? ⟨wb, 11, none⟩ = some (.bool tp) := blk_cell HJ3.out.k.w0 11
          have w_12 : w3'.cell? ⟨wb, 12, none⟩ = some (.int .i64 0) := blk_cell HJ3.out.k.w0 12
          have w_13 : w3'.cell? ⟨wb, 13, none⟩ = some (.int .i64 0) := blk_cell HJ3.out.k.w0 13
          have h_0 : w3'.cell? ⟨hb, 0, none⟩ = some (.int .i64 nm) := blk_cell HJ3.out.k.h 0
          have h_1 : w3'.cell? ⟨hb, 1, none⟩ = some (.bool mp) := blk_cell HJ3.out.k.h 1
          have h_2 : w3'.cell? ⟨hb, 2, none⟩ = some (.int .i64 x2) := blk_cell HJ3.out.k.h 2
          have h_3 : w3'.cell? ⟨hb, 3, none⟩ = some (.int .i64 fs) := blk_cell HJ3.out.k.h 3
          have h_4 : w3'.cell? ⟨hb, 4, none⟩ = some (.int .i64 cnt) := blk_cell HJ3.out.k.h 4
          have h_5 : w3'.cell? ⟨hb, 5, none⟩ = some (.int .i64 en) := blk_cell HJ3.out.k.h 5
          have h_6 : w3'.cell? ⟨hb, 6, none⟩ = some (.int .i64 gw) := blk_cell HJ3.out.k.h 6
          have h_7 : w3'.cell? ⟨hb, 7, none⟩ = some (.int .i64 gh) := blk_cell HJ3.out.k.h 7
          have h_8 : w3'.cell? ⟨hb, 8, none⟩ = some (.int .i64 d) := blk_cell HJ3.out.k.h 8
          have h_9 : w3'.cell? ⟨hb, 9, none⟩ = some (.int .i64 a) := blk_cell HJ3.out.k.h 9
          have h_10 : w3'.cell? ⟨hb, 10, none⟩ = some (.bool lf) := blk_cell HJ3.out.k.h 10
          have h_11 : w3'.cell? ⟨hb, 11, none⟩ = some (.bool tp) := blk_cell HJ3.out.k.h 11
          have f_0 : w3'.cell? ⟨hb + 1, 0, none⟩ = some (.int .i64 0) := blk_cell HJ3.out.k.f 0
          have f_1 : w3'.cell? ⟨hb + 1, 1, none⟩ = some (.int .i64 0) := blk_cell HJ3.out.k.f 1
          have f_2 : w3'.cell? ⟨hb + 1, 2, none⟩ = some (.int .i64 0) := blk_cell HJ3.out.k.f 2
          have lw := blk_lt HJ3.out.k.w0
          have lh := blk_lt HJ3.out.k.h
          have lf' := blk_lt HJ3.out.k.f
          have m_0 : w3'.cell? ⟨vk, 0, none⟩ = some (.int .i64 at0) := blk_cell HJ3.out.v 0
          have m_1 : w3'.cell? ⟨vk, 1, none⟩ = some (.slice la ln lc) := blk_cell HJ3.out.v 1
          have m_2 : w3'.cell? ⟨vk, 2, none⟩ = some (.int .i64 0) := blk_cell HJ3.out.v 2
          have m_3 : w3'.cell? ⟨vk, 3, none⟩ = some (.int .i64 0) := blk_cell HJ3.out.v 3
          have lm := blk_lt HJ3.out.v
          have x_0 : w3'.cell? ⟨ck, 0, none⟩ = some (.int .u8 c0) := blk_cell hc3 0
          have x_1 : w3'.cell? ⟨ck, 1, none⟩ = some (.int .u8 c1) := blk_cell hc3 1
          have x_2 : w3'.cell? ⟨ck, 2, none⟩ = some (.int .u8 c2) := blk_cell hc3 2
          have x_3 : w3'.cell? ⟨ck, 3, none⟩ = some (.int .u8 c3) := blk_cell hc3 3
          have z_0 : w3'.cell? ⟨ck + 1, 0, none⟩ = some (.int .i64 0) := blk_cell hf3 0
          have z_1 : w3'.cell? ⟨ck + 1, 1, none⟩ = some (.int .i64 0) := blk_cell hf3 1
          have z_2 : w3'.cell? ⟨ck + 1, 2, none⟩ = some (.int .i64 0) := blk_cell hf3 2
          have lc3 := blk_lt hc3
          have lf3 := blk_lt hf3
          go_wp2_with fail
          refine (KZ.out _).mono ?_
          rintro e w5' ⟨rfl, g5⟩
          have g45 := gb_trans (World.grownBy_alloc w3' (.cells #[.int .u8 c0, .int .u8 c1, .int .u8 c2, .int .u8 c3] 49) none) g5
          have HJ5 := Lib.hid (HJ3.out.grown HQS.out g45)
          have HS5 := Lib.hid (show SP c l s (o + sz) (21 - (k + 1)) P w5' from by rw [show 21 - (k + 1) = 20 - k from by omega]; exact HS3.out.grown HPS.out g45)
          clear g45 g5 HJ3 HS3 hc3 hf3 w_0 w_1 w_2 w_3 w_4 w_5 w_6 w_7 w_8 w_9 w_10 w_11 w_12 w_13 h_0 h_1 h_2 h_3 h_4 h_5 h_6 h_7 h_8 h_9 h_10 h_11 f_0 f_1 f_2 lw lh lf' m_0 m_1 m_2 m_3 lm x_0 x_1 x_2 x_3 z_0 z_1 z_2 lc3 lf3
          go_wp2
          go_roundg (m + 1 - (k + 1))
          case measure => omega
          case rel => exact ⟨o + sz, k + 1, by omega, rfl, by first | rfl | go_num, by go_num, hos, HJ5.out, HS5.out⟩
        · have KP := Lib.hid (KP0.mono (fun e w' ⟨h1, h2, h3⟩ => (show e = Ending.returned (.tuple #[.agg #[.int .u8 0, .int .u8 0, .int .u8 0, .int .u8 0], .agg #[.int .i64 (KD o), .int .i64 2, .int .i64 (PL o)]]) ∧ Tn wr w' [c, l] from ⟨by rw [h1, HCZ.out o 0 hkd, HCZ.out o 1 hkd, HCZ.out o 2 hkd, HCZ.out o 3 hkd, if_neg hkd], h3⟩)))
          have KQ := Lib.hid (fun u (hu : Q u) => (KQ0 u hu).mono (fun e w' ⟨h1, h2⟩ => (show e = Ending.returned (.tuple #[.agg #[.int .u8 0, .int .u8 0, .int .u8 0, .int .u8 0], .int .i64 (KD o), .int .i64 (PL o)]) ∧ u.grownBy w' none from ⟨by rw [h1, HCZ.out o 0 hkd, HCZ.out o 1 hkd, HCZ.out o 2 hkd, HCZ.out o 3 hkd], h2⟩)))
          obtain ⟨kk, hkk⟩ : ∃ z, KD o = z := ⟨_, rfl⟩
          obtain ⟨pp, hpp⟩ : ∃ z, PL o = z := ⟨_, rfl⟩
          rw [hkk, hpp] at KP KQ
          rw [hkk] at hkd
          have hk1 : (kk == 0) = false := by rw [beq_eq_false_iff_ne]; exact hkd
          have hk2 : (kk != 0) = true := by rw [bne_iff_ne]; exact hkd
          clear KP0 KQ0 hkd hkk hpp
          go_wp2_with fail
          refine KP.out.mono ?_
          rintro e w1' ⟨rfl, t1⟩
          have HJ1 := Lib.hid (HJ.out.turned HQS.out t1 HNW.out.1 HNW.out.2.1 HNW.out.2.2.1 HNW.out.2.2.2)
          clear t1 HJ HJS w_0 w_1 w_2 w_3 w_4 w_5 w_6 w_7 w_8 w_9 w_10 w_11 w_12 w_13 h_0 h_1 h_2 h_3 h_4 h_5 h_6 h_7 h_8 h_9 h_10 h_11 f_0 f_1 f_2 lw lh lf' m_0 m_1 m_2 m_3 lm KP
          have w_0 : w1'.cell? ⟨wb, 0, none⟩ = some (.int .i64 nm) := blk_cell HJ1.out.k.w0 0
          have w_1 : w1'.cell? ⟨wb, 1, none⟩ = some (.int .i64 mi) := blk_cell HJ1.out.k.w0 1
          have w_2 : w1'.cell? ⟨wb, 2, none⟩ = some (.int .i64 x2) := blk_cell HJ1.out.k.w0 2
          have w_3 : w1'.cell? ⟨wb, 3, none⟩ = some (.int .i64 fs) := blk_cell HJ1.out.k.w0 3
          have w_4 : w1'.cell? ⟨wb, 4, none⟩ = some (.int .i64 cnt) := blk_cell HJ1.out.k.w0 4
          have w_5 : w1'.cell? ⟨wb, 5, none⟩ = some (.int .i64 en) := blk_cell HJ1.out.k.w0 5
          have w_6 : w1'.cell? ⟨wb, 6, none⟩ = some (.int .i64 gw) := blk_cell HJ1.out.k.w0 6
          have w_7 : w1'.cell? ⟨wb, 7, none⟩ = some (.int .i64 gh) := blk_cell HJ1.out.k.w0 7
          have w_8 : w1'.cell? ⟨wb, 8, none⟩ = some (.int .i64 d) := blk_cell HJ1.out.k.w0 8
          have w_9 : w1'.cell? ⟨wb, 9, none⟩ = some (.int .i64 a) := blk_cell HJ1.out.k.w0 9
          have w_10 : w1'.cell? ⟨wb, 10, none⟩ = some (.bool lf) := blk_cell HJ1.out.k.w0 10
          have w_11 : w1'.cell? ⟨wb, 11, none⟩ = some (.bool tp) := blk_cell HJ1.out.k.w0 11
          have w_12 : w1'.cell? ⟨wb, 12, none⟩ = some (.int .i64 0) := blk_cell HJ1.out.k.w0 12
          have w_13 : w1'.cell? ⟨wb, 13, none⟩ = some (.int .i64 0) := blk_cell HJ1.out.k.w0 13
          have h_0 : w1'.cell? ⟨hb, 0, none⟩ = some (.int .i64 nm) := blk_cell HJ1.out.k.h 0
          have h_1 : w1'.cell? ⟨hb, 1, none⟩ = some (.bool mp) := blk_cell HJ1.out.k.h 1
          have h_2 : w1'.cell? ⟨hb, 2, none⟩ = some (.int .i64 x2) := blk_cell HJ1.out.k.h 2
          have h_3 : w1'.cell? ⟨hb, 3, none⟩ = some (.int .i64 fs) := blk_cell HJ1.out.k.h 3
          have h_4 : w1'.cell? ⟨hb, 4, none⟩ = some (.int .i64 cnt) := blk_cell HJ1.out.k.h 4
          have h_5 : w1'.cell? ⟨hb, 5, none⟩ = some (.int .i64 en) := blk_cell HJ1.out.k.h 5
          have h_6 : w1'.cell? ⟨hb, 6, none⟩ = some (.int .i64 gw) := blk_cell HJ1.out.k.h 6
          have h_7 : w1'.cell? ⟨hb, 7, none⟩ = some (.int .i64 gh) := blk_cell HJ1.out.k.h 7
          have h_8 : w1'.cell? ⟨hb, 8, none⟩ = some (.int .i64 d) := blk_cell HJ1.out.k.h 8
          have h_9 : w1'.cell? ⟨hb, 9, none⟩ = some (.int .i64 a) := blk_cell HJ1.out.k.h 9
          have h_10 : w1'.cell? ⟨hb, 10, none⟩ = some (.bool lf) := blk_cell HJ1.out.k.h 10
          have h_11 : w1'.cell? ⟨hb, 11, none⟩ = some (.bool tp) := blk_cell HJ1.out.k.h 11
          have f_0 : w1'.cell? ⟨hb + 1, 0, none⟩ = some (.int .i64 0) := blk_cell HJ1.out.k.f 0
          have f_1 : w1'.cell? ⟨hb + 1, 1, none⟩ = some (.int .i64 0) := blk_cell HJ1.out.k.f 1
          have f_2 : w1'.cell? ⟨hb + 1, 2, none⟩ = some (.int .i64 0) := blk_cell HJ1.out.k.f 2
          have lw := blk_lt HJ1.out.k.w0
          have lh := blk_lt HJ1.out.k.h
          have lf' := blk_lt HJ1.out.k.f
          have m_0 : w1'.cell? ⟨vk, 0, none⟩ = some (.int .i64 at0) := blk_cell HJ1.out.v 0
          have m_1 : w1'.cell? ⟨vk, 1, none⟩ = some (.slice la ln lc) := blk_cell HJ1.out.v 1
          have m_2 : w1'.cell? ⟨vk, 2, none⟩ = some (.int .i64 0) := blk_cell HJ1.out.v 2
          have m_3 : w1'.cell? ⟨vk, 3, none⟩ = some (.int .i64 0) := blk_cell HJ1.out.v 3
          have lm := blk_lt HJ1.out.v
          go_wp2_with fail
          obtain ⟨ck, hck⟩ : ∃ q, w1'.heap.size = q := ⟨_, rfl⟩
          have hg2 : w1'.grownBy ((w1'.alloc (.cells #[.int .u8 0, .int .u8 0, .int .u8 0, .int .u8 0] 49)).alloc (.cells #[.int .i64 kk, .int .i64 2, .int .i64 pp] 37)) none := gb_trans (World.grownBy_alloc _ _ _) (World.grownBy_alloc _ _ _)
          have hc2 : ((w1'.alloc (.cells #[.int .u8 0, .int .u8 0, .int .u8 0, .int .u8 0] 49)).alloc (.cells #[.int .i64 kk, .int .i64 2, .int .i64 pp] 37)).heap[w1'.heap.size]? = some (.cells #[.int .u8 0, .int .u8 0, .int .u8 0, .int .u8 0] 49 (0, 0)) := blk_al blk_at _
          have hf2 : ((w1'.alloc (.cells #[.int .u8 0, .int .u8 0, .int .u8 0, .int .u8 0] 49)).alloc (.cells #[.int .i64 kk, .int .i64 2, .int .i64 pp] 37)).heap[w1'.heap.size + 1]? = some (.cells #[.int .i64 kk, .int .i64 2, .int .i64 pp] 37 (0, 0)) := by rw [← size_alloc w1' (.cells #[.int .u8 0, .int .u8 0, .int .u8 0, .int .u8 0] 49)]; exact blk_at
          have hj2 := HJ1.out.grown HQS.out hg2
          have hs2 := trivial
          rw [hck] at hc2 hf2 ⊢
          generalize (w1'.alloc (.cells #[.int .u8 0, .int .u8 0, .int .u8 0, .int .u8 0] 49)).alloc (.cells #[.int .i64 kk, .int .i64 2, .int .i64 pp] 37) = w2' at hg2 hc2 hf2 hj2 hs2 ⊢
          have HJ2 := Lib.hid hj2
          have HS2 := Lib.hid hs2
          have HC2 := Lib.hid hc2
          have HF2 := Lib.hid hf2
          clear hg2 hc2 hf2 hj2 hs2 hck HJ1  w_0 w_1 w_2 w_3 w_4 w_5 w_6 w_7 w_8 w_9 w_10 w_11 w_12 w_13 h_0 h_1 h_2 h_3 h_4 h_5 h_6 h_7 h_8 h_9 h_10 h_11 f_0 f_1 f_2 lw lh lf' m_0 m_1 m_2 m_3 lm
          refine (KQ.out _ HJ2.out.q).mono ?_
          rintro e w3' ⟨rfl, g3⟩
          have HJ3 := Lib.hid (HJ2.out.grown HQS.out g3)

          have hc3 := old0 g3 HC2.out (blk_lt HC2.out) (by simp)
          have hf3 := old0 g3 HF2.out (blk_lt HF2.out) (by simp)
          clear g3 HJ2 HS2 HC2 HF2 KQ
          have w_0 : w3'.cell? ⟨wb, 0, none⟩ = some (.int .i64 nm) := blk_cell HJ3.out.k.w0 0
          have w_1 : w3'.cell? ⟨wb, 1, none⟩ = some (.int .i64 mi) := blk_cell HJ3.out.k.w0 1
          have w_2 : w3'.cell? ⟨wb, 2, none⟩ = some (.int .i64 x2) := blk_cell HJ3.out.k.w0 2
          have w_3 : w3'.cell? ⟨wb, 3, none⟩ = some (.int .i64 fs) := blk_cell HJ3.out.k.w0 3
          have w_4 : w3'.cell? ⟨wb, 4, none⟩ = some (.int .i64 cnt) := blk_cell HJ3.out.k.w0 4
          have w_5 : w3'.cell? ⟨wb, 5, none⟩ = some (.int .i64 en) := blk_cell HJ3.out.k.w0 5
          have w_6 : w3'.cell? ⟨wb, 6, none⟩ = some (.int .i64 gw) := blk_cell HJ3.out.k.w0 6
          have w_7 : w3'.cell? ⟨wb, 7, none⟩ = some (.int .i64 gh) := blk_cell HJ3.out.k.w0 7
          have w_8 : w3'.cell? ⟨wb, 8, none⟩ = some (.int .i64 d) := blk_cell HJ3.out.k.w0 8
          have w_9 : w3'.cell? ⟨wb, 9, none⟩ = some (.int .i64 a) := blk_cell HJ3.out.k.w0 9
          have w_10 : w3'.cell? ⟨wb, 10, none⟩ = some (.bool lf) := blk_cell HJ3.out.k.w0 10
          have w_11 : w3'.cell? ⟨wb, 11, none⟩ = some (.bool tp) := blk_cell HJ3.out.k.w0 11
          have w_12 : w3'.cell? ⟨wb, 12, none⟩ = some (.int .i64 0) := blk_cell HJ3.out.k.w0 12
          have w_13 : w3'.cell? ⟨wb, 13, none⟩ = some (.int .i64 0) := blk_cell HJ3.out.k.w0 13
          have h_0 : w3'.cell? ⟨hb, 0, none⟩ = some (.int .i64 nm) := blk_cell HJ3.out.k.h 0
          have h_1 : w3'.cell? ⟨hb, 1, none⟩ = some (.bool mp) := blk_cell HJ3.out.k.h 1
          have h_2 : w3'.cell? ⟨hb, 2, none⟩ = some (.int .i64 x2) := blk_cell HJ3.out.k.h 2
          have h_3 : w3'.cell? ⟨hb, 3, none⟩ = some (.int .i64 fs) := blk_cell HJ3.out.k.h 3
          have h_4 : w3'.cell? ⟨hb, 4, none⟩ = some (.int .i64 cnt) := blk_cell HJ3.out.k.h 4
          have h_5 : w3'.cell? ⟨hb, 5, none⟩ = some (.int .i64 en) := blk_cell HJ3.out.k.h 5
          have h_6 : w3'.cell? ⟨hb, 6, none⟩ = some (.int .i64 gw) := blk_cell HJ3.out.k.h 6
          have h_7 : w3'.cell? ⟨hb, 7, none⟩ = some (.int .i64 gh) := blk_cell HJ3.out.k.h 7
          have h_8 : w3'.cell? ⟨hb, 8, none⟩ = some (.int .i64 d) := blk_cell HJ3.out.k.h 8
          have h_9 : w3'.cell? ⟨hb, 9, none⟩ = some (.int .i64 a) := blk_cell HJ3.out.k.h 9
          have h_10 : w3'.cell? ⟨hb, 10, none⟩ = some (.bool lf) := blk_cell HJ3.out.k.h 10
          have h_11 : w3'.cell? ⟨hb, 11, none⟩ = some (.bool tp) := blk_cell HJ3.out.k.h 11
          have f_0 : w3'.cell? ⟨hb + 1, 0, none⟩ = some (.int .i64 0) := blk_cell HJ3.out.k.f 0
          have f_1 : w3'.cell? ⟨hb + 1, 1, none⟩ = some (.int .i64 0) := blk_cell HJ3.out.k.f 1
          have f_2 : w3'.cell? ⟨hb + 1, 2, none⟩ = some (.int .i64 0) := blk_cell HJ3.out.k.f 2
          have lw := blk_lt HJ3.out.k.w0
          have lh := blk_lt HJ3.out.k.h
          have lf' := blk_lt HJ3.out.k.f
          have m_0 : w3'.cell? ⟨vk, 0, none⟩ = some (.int .i64 at0) := blk_cell HJ3.out.v 0
          have m_1 : w3'.cell? ⟨vk, 1, none⟩ = some (.slice la ln lc) := blk_cell HJ3.out.v 1
          have m_2 : w3'.cell? ⟨vk, 2, none⟩ = some (.int .i64 0) := blk_cell HJ3.out.v 2
          have m_3 : w3'.cell? ⟨vk, 3, none⟩ = some (.int .i64 0) := blk_cell HJ3.out.v 3
          have lm := blk_lt HJ3.out.v
          have x_0 : w3'.cell? ⟨ck, 0, none⟩ = some (.int .u8 0) := blk_cell hc3 0
          have x_1 : w3'.cell? ⟨ck, 1, none⟩ = some (.int .u8 0) := blk_cell hc3 1
          have x_2 : w3'.cell? ⟨ck, 2, none⟩ = some (.int .u8 0) := blk_cell hc3 2
          have x_3 : w3'.cell? ⟨ck, 3, none⟩ = some (.int .u8 0) := blk_cell hc3 3
          have z_0 : w3'.cell? ⟨ck + 1, 0, none⟩ = some (.int .i64 kk) := blk_cell hf3 0
          have z_1 : w3'.cell? ⟨ck + 1, 1, none⟩ = some (.int .i64 2) := blk_cell hf3 1
          have z_2 : w3'.cell? ⟨ck + 1, 2, none⟩ = some (.int .i64 pp) := blk_cell hf3 2
          have lc3 := blk_lt hc3
          have lf3 := blk_lt hf3
          go_wp2_with fail
          refine (awake_calls _).mono ?_
          rintro e w9 ⟨rfl, g9⟩
          have G9 := Lib.hid (gb_trans (gb_trans (tn_gb HJ3.out.tn HWW.out) (World.grownBy_alloc _ _ none)) g9)
          clear g9
          go_wp2
          go_ret
          exact ⟨rfl, G9.out⟩
      · obtain rfl : k = m := by omega
        have hge : ¬ (k : Int) < (k : Int) := by omega
        have hdl : decide ((k : Int) < (k : Int)) = false := decide_eq_false hge
        have KA := Lib.hid (fun u (hu : Sr.So c l s o 0 s.size u) => Sr.at_calls c l s o 0 s.size u hu)
        go_wp2_with fail
        refine (KA.out _ HJS.out.so).mono ?_
        rintro e w' ⟨rfl, rfl⟩
        go_wp2_with fail
        refine (awake_calls _).mono ?_
        rintro e w9 ⟨rfl, g9⟩
        have G9 := Lib.hid (gb_trans (tn_gb HJ.out.tn HWW.out) g9)
        clear g9
        go_wp2
        go_ret
        exact ⟨rfl, G9.out⟩

end Go.Proofs.YtgkeopgccocmkaaGreat.Tp
