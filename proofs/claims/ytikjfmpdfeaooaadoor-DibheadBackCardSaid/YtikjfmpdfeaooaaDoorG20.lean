/- Texts of one kind, one behind the other: Dh9. -/
import Derived.Lib.SlBytesRow
import Derived.Test.YtikjfmpdfeaooaaDoorG18
import Derived.Test.YtikjfmpdfeaooaaDoorG19
/- Layer 20: a head without masks, read; the chapter's example; DibheadKnown (written by wip/gen/dh9.py). -/
namespace Go.Proofs.YtikjfmpdfeaooaaDoor.Dh
open Go.ChangeShapes Go.WideShapes Go.ChangeAt Go.RowKit
open Go.Proofs.YtikjfmpdfeaooaaDoor.Le Go.Proofs.YtikjfmpdfeaooaaDoor.Sr Go.Proofs.YtikjfmpdfeaooaaDoor.Ma
set_option linter.unusedVariables false

theorem numbers_calls (z : ByteArray) (h : z.size = 12 ∨ (40 ≤ z.size ∧ z.size ≤ 200)) (W : World) :
    Calls Tryd.prog 22 #[.string z] W fun e w' => e = .returned (.agg (nV z)) ∧ W.grownBy w' none := by
  rcases h with h | ⟨h1, h2⟩
  · exact numbers_short z h W
  · exact numbers_long z h1 h2 W
theorem nH_bd (z : ByteArray) : -2147483648 ≤ nH z ∧ nH z ≤ 2147483647 := by
  unfold nH
  split
  · have := w2_lt z 6; omega
  · have := w4_lt z 8; unfold sgn; split <;> omega
theorem rd_ot {n : Int} (h : rdH n = true) : otH n = false := by
  have h := of_decide_eq_true h
  exact decide_eq_false (by omega)
theorem rd_bd {n : Nat} (h : rdH (n : Int) = true) : n = 12 ∨ (40 ≤ n ∧ n ≤ 200) := by
  have h := of_decide_eq_true h
  omega

/-- The masks of words of so many bits, where none are told. -/
def cmV (d : Int) (k : Nat) : Int := if d = 16 then #[10, 5, 5, 5, 0, 5, 0, 0].getD k 0 else if d = 32 then #[16, 8, 8, 8, 0, 8, 0, 0].getD k 0 else 0
def cmB (d : Int) : Bool := decide (d = 16 ∨ d = 32)
theorem common_calls (d : Int) (W : World) : Calls Tryd.prog 52 #[.int .i64 d] W
    fun e w' => e = .returned (.tuple #[.agg #[.int .i64 (cmV d 0), .int .i64 (cmV d 1), .int .i64 (cmV d 2), .int .i64 (cmV d 3), .int .i64 (cmV d 4), .int .i64 (cmV d 5), .int .i64 (cmV d 6), .int .i64 (cmV d 7)], .bool (cmB d)]) ∧ W.grownBy w' none := by
  by_cases h1 : d = 16
  · subst h1; exact common_16 W
  by_cases h2 : d = 32
  · subst h2; exact common_32 W
  · have e : ∀ k, cmV d k = 0 := fun k => by unfold cmV; rw [if_neg h1, if_neg h2]
    simp only [e, show cmB d = false from decide_eq_false (by omega)]
    exact common_no d W h1 h2

def headV (z : ByteArray) (v : Nat → Int) (p : Nat) : Value := .agg #[.int .i64 (z.size : Nat), .int .i64 (nW z), .int .i64 (fa (nH z)), .bool (decide (nH z < 0)), .int .i64 (nD z), .int .i64 (nM z), .int .i64 (clrC (nD z) (nC z)), .int .i64 (v 0), .int .i64 (v 1), .int .i64 (v 2), .int .i64 (v 3), .int .i64 (v 4), .int .i64 (v 5), .int .i64 (v 6), .int .i64 (v 7), .int .i64 (p : Nat)]

/-- A head that is there, with whose numbers nothing is wrong, and whose method is none of masks. -/
theorem read_plain (b l : Nat) (s : ByteArray) (p f t : Nat) (fm : Int) (x : St) (W : World) (h : SL b l s p f t x W) (ok : x.Ok) (rd : rdB x p t 4 = true) (n : Nat) (hn4 : w4 s p = n) (hr : rdH n = true) (ok1 : (x.work 1).1.Ok) (rd2 : rdB (x.work 1).1 (p + 4) t ((n - 4 : Nat) : Int) = true)
    (z : ByteArray) (hz : s.extract p (p + n) = z) (hM : nM z ≠ 3) (F : FstB (ckD (z.size : Nat) (nW z) (nH z) (nP z) (nD z) (nM z) (nC z)) 10) :
    Calls Tryd.prog 10 #[.pointer (some ⟨b, 0, none⟩), .int .i64 fm] W
      fun e w' => e = .returned (.tuple #[headV z (cmV (nD z)) p, flV 0 0 0]) ∧ SL b l s (p + n) f t ((x.work 1).1.work 1).1 w' ∧ Tn W w' [b, l] := by
  have hts := h.so.ts
  have h2 := (rd_of rd2).2.2
  have hbn := rd_bd hr
  have hzs : z.size = n := by rw [← hz, ByteArray.size_extract]; omega
  have hb := nH_bd z
  have R := read_good b l s p f t fm x W h z (z.size : Nat) (nW z) (nH z) (nP z) (nD z) (nM z) (nC z) (cmV (nD z) 0) (cmV (nD z) 1) (cmV (nD z) 2) (cmV (nD z) 3) (cmV (nD z) 4) (cmV (nD z) 5) (cmV (nD z) 6) (cmV (nD z) 7) (by omega) (p + n) (p + n) ((x.work 1).1.work 1).1 ((x.work 1).1.work 1).1
    (fun u hu => by rw [← hz]; exact head_yes b l s p f t fm x u hu ok rd n hn4 (rd_ot hr) hr ok1 rd2)
    (fun u => numbers_calls z (by omega) u)
    (fun u => wrong_calls _ _ _ _ _ _ _ 10 u (by omega) (by omega) F)
    (fun u hu _ => masks_none b l s z p (p + n) f t fm _ _ _ _ _ _ _ _ _ _ _ _ _ _ _ (cmB (nD z)) _ u hu (by omega) (fun v => common_calls (nD z) v))
  exact R

theorem fresh_calls (s : ByteArray) (W : World) (hs : s.size ≤ 9223372036854775807) :
    Calls Tryd.prog 8 #[.string s] W fun e w' =>
      ∃ c l, e = .returned (.pointer (some ⟨c, 0, none⟩)) ∧ SL c l s 0 0 s.size (LW 1000 0) w' ∧ W.grownBy w' none ∧ W.heap.size ≤ l ∧ W.heap.size ≤ c := by
  go_enter Tryd.func8, Tryd.ntmps8
  go_wp2_with fail
  refine (wnew_calls 1000 (by decide) _).mono ?_
  rintro e w1 ⟨l, rfl, L1, g1, hl⟩
  have HL1 := Lib.hid L1
  have G1 := Lib.hid g1
  have hlw := L1.lt
  have hw := g1.size
  clear L1 g1
  go_wp2_with fail
  refine (snew_calls l s _ (by omega)).mono ?_
  rintro e w2 ⟨c, rfl, S2, g2, hc⟩
  have R : SL c l s 0 0 s.size (LW 1000 0) w2 := ⟨S2 hlw, HL1.out.grown g2 (by simp)⟩
  have HR := Lib.hid R
  have G2 := Lib.hid (gb_trans G1.out g2)
  clear R S2 g2 HL1 G1
  go_wp2
  go_ret
  exact ⟨c, l, rfl, HR.out, G2.out, hl, by omega⟩

theorem stride_calls (S X Y D M C : Int) (T : Bool) (v0 v1 v2 v3 v4 v5 v6 v7 p : Int) (W : World) :
    Calls Tryd.prog 14 #[.agg #[.int .i64 S, .int .i64 X, .int .i64 Y, .bool T, .int .i64 D, .int .i64 M, .int .i64 C, .int .i64 v0, .int .i64 v1, .int .i64 v2, .int .i64 v3, .int .i64 v4, .int .i64 v5, .int .i64 v6, .int .i64 v7, .int .i64 p]] W fun e w' => e = .returned (.int .i64 (Go.Proofs.YtikjfmpdfeaooaaDoor.Nu.strV X D 32)) ∧ W.grownBy w' none := by
  have K := Lib.hid (fun u => Go.Proofs.YtikjfmpdfeaooaaDoor.Nu.stride16 X D 32 u)
  have B0 := blk_at (w := W) (o := .cells #[.int .i64 S, .int .i64 X, .int .i64 Y, .bool T, .int .i64 D, .int .i64 M, .int .i64 C, .int .i64 v0, .int .i64 v1, .int .i64 v2, .int .i64 v3, .int .i64 v4, .int .i64 v5, .int .i64 v6, .int .i64 v7, .int .i64 p] 31)
  have G0 := World.grownBy_alloc W (.cells #[.int .i64 S, .int .i64 X, .int .i64 Y, .bool T, .int .i64 D, .int .i64 M, .int .i64 C, .int .i64 v0, .int .i64 v1, .int .i64 v2, .int .i64 v3, .int .i64 v4, .int .i64 v5, .int .i64 v6, .int .i64 v7, .int .i64 p] 31) none
  obtain ⟨r, hr⟩ : ∃ r, Go.Proofs.YtikjfmpdfeaooaaDoor.Nu.strV X D 32 = r := ⟨_, rfl⟩
  obtain ⟨q, hq⟩ : ∃ q, Go.Proofs.YtikjfmpdfeaooaaDoor.Nu.strOk X D 32 = q := ⟨_, rfl⟩
  rw [hr, hq] at K
  rw [hr]
  clear hr hq
  go_enter Tryd.func14, Tryd.ntmps14
  go_upto_region 1 with fail
  generalize W.alloc (.cells #[.int .i64 S, .int .i64 X, .int .i64 Y, .bool T, .int .i64 D, .int .i64 M, .int .i64 C, .int .i64 v0, .int .i64 v1, .int .i64 v2, .int .i64 v3, .int .i64 v4, .int .i64 v5, .int .i64 v6, .int .i64 v7, .int .i64 p] 31) = w0 at B0 G0 ⊢
  have b1 := blk_cell B0 1
  have b4 := blk_cell B0 4
  simp only [List.getElem?_toArray, List.getElem?_cons_succ, List.getElem?_cons_zero] at b1 b4
  have HG := Lib.hid G0
  clear B0 G0
  go_wp2_with fail
  refine (K.out _).mono ?_
  rintro e w' ⟨rfl, rfl⟩
  go_wp2
  go_ret
  exact ⟨rfl, HG.out⟩

def exH : ByteArray := ⟨#[40, 0, 0, 0, 1, 0, 0, 0, 255, 255, 255, 255, 1, 0, 24, 0, 0, 0, 0, 0, 0, 0, 0, 0, 0, 0, 0, 0, 0, 0, 0, 0, 0, 0, 0, 0, 0, 0, 0, 0]⟩
theorem exh_first : FstB (ckD (exH.size : Nat) (nW exH) (nH exH) (nP exH) (nD exH) (nM exH) (nC exH)) 10 := ⟨by decide, fun h => absurd h (by decide), by decide +kernel⟩
theorem exh_head : headV exH (cmV (nD exH)) 0 = .agg #[.int .i64 40, .int .i64 1, .int .i64 1, .bool true, .int .i64 24, .int .i64 0, .int .i64 0, .int .i64 0, .int .i64 0, .int .i64 0, .int .i64 0, .int .i64 0, .int .i64 0, .int .i64 0, .int .i64 0, .int .i64 0] := by kernel_rfl
theorem exh_read (c l : Nat) (W : World) (h : SL c l exH 0 0 40 (LW 1000 0) W) : Calls Tryd.prog 10 #[.pointer (some ⟨c, 0, none⟩), .int .i64 1] W
      fun e w' => e = .returned (.tuple #[.agg #[.int .i64 40, .int .i64 1, .int .i64 1, .bool true, .int .i64 24, .int .i64 0, .int .i64 0, .int .i64 0, .int .i64 0, .int .i64 0, .int .i64 0, .int .i64 0, .int .i64 0, .int .i64 0, .int .i64 0, .int .i64 0], .agg #[.int .i64 0, .int .i64 0, .int .i64 0]]) ∧ Tn W w' [c, l] := by
  have w1 : (LW 1000 0).work 1 = (LW 1000 1, true) := LW_work (by decide)
  have R := read_plain c l exH 0 0 40 1 (LW 1000 0) W h (LW_ok (by decide) (by decide) (by decide)) (LW_rd (by decide) (by decide) (by decide)) 40 (by decide +kernel) (by decide) (by rw [w1]; exact LW_ok (by decide) (by decide) (by decide)) (by rw [w1]; exact LW_rd (by decide) (by decide) (by decide)) exH (by kernel_rfl) (by decide +kernel) exh_first
  rw [exh_head] at R
  exact R.mono (fun e w' ⟨he, _, t⟩ => ⟨he, t⟩)

theorem push_at (w : World) (o o' : Obj) (h : o = o') : (w.heap.push o)[w.heap.size]? = some o' := by rw [h]; simp
def u8v (b : UInt8) : Value := .int .u8 (b.toNat : Int)
/-- Block c is these bytes. -/
def UB (c : Nat) (L : List UInt8) (w : World) : Prop := w.heap[c]? = some (.cells (L.map u8v).toArray 5 (0, 0))
theorem UB.cell {c : Nat} {L : List UInt8} {w : World} (h : UB c L w) (i : Nat) (hi : i < L.length) : w.cell? ⟨c, i, none⟩ = some (.int .u8 ((L[i]'hi).toNat : Int)) ∧ w.frozen? ⟨c, i, none⟩ = false := by
  refine ⟨?_, blk_free h i⟩
  rw [blk_cell h i]
  simp [u8v, hi]
theorem UB.set {c : Nat} {L : List UInt8} {w : World} (h : UB c L w) (i : Nat) (x : Int) (hx : 0 ≤ x ∧ x ≤ 255) : UB c (L.set i (UInt8.ofNat x.toNat)) (w.setCell ⟨c, i, none⟩ (.int .u8 x)) := by
  have e : u8v (UInt8.ofNat x.toNat) = .int .u8 x := by
    unfold u8v
    congr 1
    rw [UInt8.toNat_ofNat']
    omega
  have := blk_set h i (.int .u8 x)
  unfold UB
  rw [this, List.map_set, e]
  simp
theorem UB.conv {c : Nat} {L : List UInt8} {w : World} (h : UB c L w) : (convert 48 9 (.slice (some ⟨c, 0, none⟩) L.length L.length)).run Tryd.prog w = .ok (.string ⟨L.toArray⟩) w := by
  have hz : (⟨L.toArray⟩ : ByteArray).size = L.length := by show L.toArray.size = _; simp
  have hc : Lib.Bytes w c 0 ⟨L.toArray⟩ := by
    intro i hi
    have hi' : i < L.length := by rw [hz] at hi; omega
    rw [blk_cell h (0 + i)]
    simp [u8v, hi']
    rfl
  have := Lib.run_convert_whole (P := Tryd.prog) w 48 5 9 (by kernel_rfl) (by kernel_rfl) (by kernel_rfl) c 0 ⟨L.toArray⟩ hc L.length
  rw [hz] at this
  exact this
structure UI (W : World) (L : List UInt8) (w : World) : Prop where
  u : UB W.heap.size L w
  g : W.grownBy w none
theorem UI.set {W w : World} {L : List UInt8} (h : UI W L w) {i : Nat} {x : Int} (hx : 0 ≤ x ∧ x ≤ 255) : UI W (L.set i (UInt8.ofNat x.toNat)) (w.setCell ⟨W.heap.size, i, none⟩ (.int .u8 x)) :=
  ⟨h.u.set i x hx, gb_own h.g (Nat.le_refl _) (gb_set _ _ _ _)⟩

theorem UI.as {W w : World} {L M : List UInt8} (h : UI W L w) (e : L = M) : UI W M w := e ▸ h

set_option maxRecDepth 100000 in
set_option maxHeartbeats 4000000 in
theorem awake_calls (W : World) : Calls Tryd.prog 7 #[] W fun e w' => e = .returned (.bool true) ∧ W.grownBy w' none := by
  have KFR := Lib.hid (fun u => fresh_calls exH u (by decide))
  have KRD := Lib.hid (fun c l u (h : SL c l exH 0 0 40 (LW 1000 0) u) => exh_read c l u h)
  have KST := Lib.hid (fun u => stride_calls 40 1 1 24 0 0 true 0 0 0 0 0 0 0 0 0 u)
  rw [show Go.Proofs.YtikjfmpdfeaooaaDoor.Nu.strV 1 24 32 = 4 from by decide +kernel] at KST
  go_enter Tryd.func7, Tryd.ntmps7
  go_upto_region 2 with fail
  refine abs_w (R := UI W (List.replicate 40 0)) ?_ (fun w1 I => ?_)
  · refine ⟨?_, World.grownBy_alloc _ _ none⟩
    exact push_at _ _ _ (by kernel_rfl)
  obtain ⟨c0, f0⟩ := I.u.cell 0 (by decide)
  obtain ⟨c4, f4⟩ := I.u.cell 4 (by decide)
  obtain ⟨c12, f12⟩ := I.u.cell 12 (by decide)
  obtain ⟨c14, f14⟩ := I.u.cell 14 (by decide)
  obtain ⟨c8, f8⟩ := I.u.cell 8 (by decide)
  obtain ⟨c9, f9⟩ := I.u.cell 9 (by decide)
  obtain ⟨c10, f10⟩ := I.u.cell 10 (by decide)
  obtain ⟨c11, f11⟩ := I.u.cell 11 (by decide)
  simp only [List.getElem_replicate] at c0 c4 c12 c14 c8 c9 c10 c11
  have HI := Lib.hid I
  clear I
  go_upto_region 4 with fail
  refine abs_w (R := UI W exH.data.toList) (UI.as (UI.set (UI.set (UI.set (UI.set (UI.set (UI.set (UI.set (UI.set HI.out ⟨by decide, by decide⟩) ⟨by decide, by decide⟩) ⟨by decide, by decide⟩) ⟨by decide, by decide⟩) ⟨by decide, by decide⟩) ⟨by decide, by decide⟩) ⟨by decide, by decide⟩) ⟨by decide, by decide⟩) (by decide +kernel)) (fun w2 I2 => ?_)
  have hcv := I2.u.conv
  have HI2 := Lib.hid I2
  have e0 : exH.data.toList.length = 40 := by decide
  rw [e0] at hcv
  rw [show (⟨exH.data.toList.toArray⟩ : ByteArray) = exH from rfl] at hcv
  clear I2 HI e0 c0 f0 c4 f4 c12 f12 c14 f14 c8 f8 c9 f9 c10 f10 c11 f11
  go_wp2_with fail
  refine (KFR.out _).mono ?_
  rintro e w3 ⟨c, l, rfl, S3, g3, hl, hc⟩
  have HS3 := Lib.hid (show SL c l exH 0 0 40 (LW 1000 0) w3 from S3)
  have G3 := Lib.hid (gb_trans HI2.out.g g3)
  have hsz := HI2.out.g.size
  have hcl : W.heap.size ≤ c ∧ W.heap.size ≤ l := ⟨by omega, by omega⟩
  clear S3 g3 HI2 KFR hcv hl hc hsz
  go_wp2_with fail
  refine (KRD.out c l _ HS3.out).mono ?_
  rintro e w4 ⟨rfl, t4⟩
  have G4 := Lib.hid (gb_trans (Tn.own G3.out t4 (by intro x hx; simp at hx; omega)) (gb_trans (World.grownBy_alloc w4 (.cells #[.int .i64 40, .int .i64 1, .int .i64 1, .bool true, .int .i64 24, .int .i64 0, .int .i64 0, .int .i64 0, .int .i64 0, .int .i64 0, .int .i64 0, .int .i64 0, .int .i64 0, .int .i64 0, .int .i64 0, .int .i64 0] 31) none) (World.grownBy_alloc (w4.alloc (.cells #[.int .i64 40, .int .i64 1, .int .i64 1, .bool true, .int .i64 24, .int .i64 0, .int .i64 0, .int .i64 0, .int .i64 0, .int .i64 0, .int .i64 0, .int .i64 0, .int .i64 0, .int .i64 0, .int .i64 0, .int .i64 0] 31)) (.cells #[.int .i64 0, .int .i64 0, .int .i64 0] 33) none)))
  have A4 : ((w4.alloc (.cells #[.int .i64 40, .int .i64 1, .int .i64 1, .bool true, .int .i64 24, .int .i64 0, .int .i64 0, .int .i64 0, .int .i64 0, .int .i64 0, .int .i64 0, .int .i64 0, .int .i64 0, .int .i64 0, .int .i64 0, .int .i64 0] 31)).alloc (.cells #[.int .i64 0, .int .i64 0, .int .i64 0] 33)).heap[w4.heap.size]? = some (.cells #[.int .i64 40, .int .i64 1, .int .i64 1, .bool true, .int .i64 24, .int .i64 0, .int .i64 0, .int .i64 0, .int .i64 0, .int .i64 0, .int .i64 0, .int .i64 0, .int .i64 0, .int .i64 0, .int .i64 0, .int .i64 0] 31 (0, 0)) := blk_al blk_at _
  have F4 : ((w4.alloc (.cells #[.int .i64 40, .int .i64 1, .int .i64 1, .bool true, .int .i64 24, .int .i64 0, .int .i64 0, .int .i64 0, .int .i64 0, .int .i64 0, .int .i64 0, .int .i64 0, .int .i64 0, .int .i64 0, .int .i64 0, .int .i64 0] 31)).alloc (.cells #[.int .i64 0, .int .i64 0, .int .i64 0] 33)).heap[w4.heap.size + 1]? = some (.cells #[.int .i64 0, .int .i64 0, .int .i64 0] 33 (0, 0)) := by
    rw [← size_alloc w4 (.cells #[.int .i64 40, .int .i64 1, .int .i64 1, .bool true, .int .i64 24, .int .i64 0, .int .i64 0, .int .i64 0, .int .i64 0, .int .i64 0, .int .i64 0, .int .i64 0, .int .i64 0, .int .i64 0, .int .i64 0, .int .i64 0] 31)]; exact blk_at
  clear t4 HS3 G3 hcl KRD
  go_upto_region 8 with fail
  generalize ((w4.alloc (.cells #[.int .i64 40, .int .i64 1, .int .i64 1, .bool true, .int .i64 24, .int .i64 0, .int .i64 0, .int .i64 0, .int .i64 0, .int .i64 0, .int .i64 0, .int .i64 0, .int .i64 0, .int .i64 0, .int .i64 0, .int .i64 0] 31)).alloc (.cells #[.int .i64 0, .int .i64 0, .int .i64 0] 33)) = w5 at A4 F4 G4 ⊢
  have h0 := blk_cell A4 0
  have h1 := blk_cell A4 1
  have h2 := blk_cell A4 2
  have h3 := blk_cell A4 3
  have h4 := blk_cell A4 4
  have h5 := blk_cell A4 5
  have h6 := blk_cell A4 6
  have h7 := blk_cell A4 7
  have h8 := blk_cell A4 8
  have h9 := blk_cell A4 9
  have h10 := blk_cell A4 10
  have h11 := blk_cell A4 11
  have h12 := blk_cell A4 12
  have h13 := blk_cell A4 13
  have h14 := blk_cell A4 14
  have h15 := blk_cell A4 15
  have d0 := blk_cell F4 0
  have d1 := blk_cell F4 1
  have d2 := blk_cell F4 2
  simp only [List.getElem?_toArray, List.getElem?_cons_succ, List.getElem?_cons_zero] at h0 h1 h2 h3 h4 h5 h6 h7 h8 h9 h10 h11 h12 h13 h14 h15 d0 d1 d2
  have l0 := blk_lt A4
  have l1 := blk_lt F4
  clear A4 F4
  go_wp2_with fail
  refine (KST.out _).mono ?_
  rintro e w6 ⟨rfl, g6⟩
  have G6 := Lib.hid (gb_trans G4.out g6)
  clear g6
  go_wp2
  go_ret
  exact ⟨rfl, G6.out⟩

end Go.Proofs.YtikjfmpdfeaooaaDoor.Dh
