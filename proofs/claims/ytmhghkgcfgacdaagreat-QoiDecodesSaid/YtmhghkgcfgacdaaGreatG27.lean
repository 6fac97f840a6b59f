/- Texts of one kind, one behind the other: Qo6. -/
import Derived.Deep.Cut
import Derived.Deep.CutBlock
import Derived.Deep.CutRange
import Derived.Deep.LoopGhost
import Derived.Test.YtmhghkgcfgacdaaGreatG26
/- Layer 26: the loop over steps, by any ledger. (Written by gen/qo6.py.) -/
namespace Go.Proofs.YtmhghkgcfgacdaaGreat.Qo
open Go.ChangeShapes Go.WideShapes Go.ChangeAt Go.RowKit
open Go.Proofs.YtmhghkgcfgacdaaGreat.Le Go.Proofs.YtmhghkgcfgacdaaGreat.Tk Go.Proofs.YtmhghkgcfgacdaaGreat.Sr Go.Proofs.YtmhghkgcfgacdaaGreat.Sh Go.Proofs.YtmhghkgcfgacdaaGreat.Qw
open Go.Proofs.YtmhghkgcfgacdaaGreat.Ra hiding bt
set_option linter.unusedVariables false

/-- Which blocks are other ones. -/
structure NE (c l r cb g L i0 : Nat) : Prop where
  L2 : L ∉ [c, l]
  r2 : r ∉ [c, l]
  b2 : cb ∉ [c, l]
  g2 : g ∉ [c, l]
  i2 : i0 ∉ [c, l]
  c1 : c ∉ [i0]
  l1 : l ∉ [i0]
  r1 : r ∉ [i0]
  b1 : cb ∉ [i0]
  g1 : g ∉ [i0]
  L1 : L ∉ [i0]
  i3 : i0 ∉ [l, g, L]
  i4 : i0 ∉ [l, g]
theorem NE.of {W : World} {c l r cb g L i0 : Nat} (B : BQ W c l r cb g L) (h : W.heap.size = i0) : NE c l r cb g L i0 := by
  have b1 := B.fb.pc
  have b2 := B.fb.pl
  have b3 := B.fb.pr
  have b4 := B.fb.pb
  have b5 := B.fb.pg
  have b6 := B.lt
  have c1 : i0 ≠ c := by omega
  have c2 : i0 ≠ l := by omega
  have c3 : i0 ≠ r := by omega
  have c4 : i0 ≠ cb := by omega
  have c5 : i0 ≠ g := by omega
  have c6 : i0 ≠ L := by omega
  exact ⟨by simp [B.xc, B.xl], by simp [B.fb.ncr.symm, B.fb.nlr.symm], by simp [B.fb.ncb.symm, B.fb.nlb.symm], by simp [B.fb.ncg.symm, B.fb.nlg.symm], by simp [c1, c2], by simp [c1.symm], by simp [c2.symm], by simp [c3.symm], by simp [c4.symm], by simp [c5.symm], by simp [c6.symm], by simp [c2, c5, c6], by simp [c2, c5]⟩
theorem NK.of {c l r cb g L i0 kb : Nat} (h : NE c l r cb g L i0) (c1 : kb ≠ c) (c2 : kb ≠ l) (c3 : kb ≠ r) (c4 : kb ≠ cb) (c5 : kb ≠ g) (c6 : kb ≠ L) : NE c l r cb g L kb :=
  ⟨h.L2, h.r2, h.b2, h.g2, by simp [c1, c2], by simp [c1.symm], by simp [c2.symm], by simp [c3.symm], by simp [c4.symm], by simp [c5.symm], by simp [c6.symm], by simp [c2, c5, c6], by simp [c2, c5]⟩
theorem sub2 {c l g L : Nat} : ∀ x, x ∈ [c, l] → x ∈ [c, l, g, L] := by
  intro x hx
  simp at hx ⊢
  rcases hx with h | h
  · exact .inl h
  · exact .inr (.inl h)
theorem ge1 {i0 : Nat} {W : World} {S : List Nat} (h : W.heap.size = i0) : ∀ x, x ∈ [i0] → W.heap.size ≤ x ∨ x ∈ S := by
  intro x hx
  simp at hx
  rw [hx, h]
  exact .inl (Nat.le_refl _)

/-- The pixel's block. -/
def KC (k : Nat) (v : C4) (w : World) : Prop := w.heap[k]? = some (.cells #[.int .u8 (v.r : Nat), .int .u8 (v.g : Nat), .int .u8 (v.b : Nat), .int .u8 (v.a : Nat)] 67 (0, 0))
theorem KC.c0 {k : Nat} {v : C4} {w : World} (h : KC k v w) : w.cell? ⟨k, 0, none⟩ = some (.int .u8 (v.r : Nat)) := blk_cell h 0
theorem KC.c1 {k : Nat} {v : C4} {w : World} (h : KC k v w) : w.cell? ⟨k, 1, none⟩ = some (.int .u8 (v.g : Nat)) := blk_cell h 1
theorem KC.c2 {k : Nat} {v : C4} {w : World} (h : KC k v w) : w.cell? ⟨k, 2, none⟩ = some (.int .u8 (v.b : Nat)) := blk_cell h 2
theorem KC.c3 {k : Nat} {v : C4} {w : World} (h : KC k v w) : w.cell? ⟨k, 3, none⟩ = some (.int .u8 (v.a : Nat)) := blk_cell h 3
theorem KC.f {k : Nat} {v : C4} {w : World} (h : KC k v w) (o : Nat) : w.frozen? ⟨k, o, none⟩ = false := blk_free h o
theorem KC.turned {k : Nat} {v : C4} {w w' : World} {S : List Nat} (h : KC k v w) (t : Tn w w' S) (hk : k ∉ S) : KC k v w' := (t.block k (blk_lt h) hk).trans h
theorem KC.set {k : Nat} {u : C4} {w : World} (h : KC k u w) (v : C4) : KC k v ((((w.setCell ⟨k, 0, none⟩ (.int .u8 (v.r : Nat))).setCell ⟨k, 1, none⟩ (.int .u8 (v.g : Nat))).setCell ⟨k, 2, none⟩ (.int .u8 (v.b : Nat))).setCell ⟨k, 3, none⟩ (.int .u8 (v.a : Nat))) :=
  blk_set (blk_set (blk_set (blk_set h 0 _) 1 _) 2 _) 3 _
theorem tn_kc (w : World) (k : Nat) (a b c d : Value) : Tn w ((((w.setCell ⟨k, 0, none⟩ a).setCell ⟨k, 1, none⟩ b).setCell ⟨k, 2, none⟩ c).setCell ⟨k, 3, none⟩ d) [k] :=
  ((((Tn.refl w [k]).st (by simp)).st (by simp)).st (by simp)).st (by simp)

/-- Behind the switch: the pixel is known, or a reading failed. -/
structure SY (W : World) (c l r cb g L gw gh n : Nat) (s : ByteArray) (x : St) (R : QR) (i0 kb : Nat) (w : World) : Prop where
  pb : ∃ C, PB L c r R.last R.seen R.i n C w
  rd : Rd c l s (R.p + nb (bt s R.p)) (stp x (R.N + rdn (bt s R.p))) w
  ro : Ro r l cb g gw gh (rk (CF R) n R.i) w
  fl : Fl i0 0 0 0 w
  tn : Tn W w [c, l, g, L]
  kc : KC kb (colQ s R.p R.last R.seen) w
  go : Gq s n R
structure SN (W : World) (c l r cb g L gw gh n J f p N : Nat) (s : ByteArray) (x : St) (i0 : Nat) (q : Nat) (y : St) (k j : Int) (w : World) : Prop where
  pb : ∃ la se i C, PB L c r la se i n C w
  rd : Rd c l s q y w
  ro : ∃ A, Ro r l cb g gw gh A w
  fl : Fl i0 0 0 0 w
  tn : Tn W w [c, l, g, L]
  lm : Lm x y
  by_ : y.by_ = x.by_
  kf : ∀ (u : World), Rd c l s q y u → Calls Tryz.prog 63 #[.pointer (some ⟨c, 0, none⟩), .int .i64 5] u fun e w' => e = .returned (.agg #[.int .i64 k, .int .i64 5, .int .i64 j]) ∧ Rd c l s q y w' ∧ u.grownBy w' none
  ed : ((sq s J).i < n ∧ f ≠ 0 ∧ k = f ∧ j = p ∧ y.r = 0) ∨ (k = 4 ∧ (∃ m : Nat, m ≤ s.size ∧ j = m) ∧ y.r ≠ 0 ∧ x.s < x.st + (N : Int))

theorem SN.grown {W : World} {c l r cb g L gw gh n J f p N : Nat} {s : ByteArray} {x : St} {i0 q : Nat} {y : St} {k j : Int} {w w' : World} (h : SN W c l r cb g L gw gh n J f p N s x i0 q y k j w) (e : w.grownBy w' none) : SN W c l r cb g L gw gh n J f p N s x i0 q y k j w' := by
  obtain ⟨la, se, i, C, P⟩ := h.pb
  obtain ⟨A, O⟩ := h.ro
  exact ⟨⟨la, se, i, C, P.turned (Tn.gb e (S := []) (by simp)) (by simp)⟩, h.rd.grown e, ⟨A, O.grown e (by simp) (by simp) (by simp)⟩, h.fl.turned (Tn.gb e (S := []) (by simp)) (by simp), h.tn.trans (Tn.gb e (by simp)), h.lm, h.by_, h.kf, h.ed⟩
theorem SN.over {W : World} {c l r cb g L gw gh n J f p N : Nat} {s : ByteArray} {x : St} {i0 q : Nat} {y : St} {k j : Int} {w w' : World} {kb : Nat} (h : SN W c l r cb g L gw gh n J f p N s x i0 q y k j w) (t : Tn w w' [kb]) (hk : NE c l r cb g L kb) (hi : i0 ∉ [kb]) (hw : W.heap.size ≤ kb) : SN W c l r cb g L gw gh n J f p N s x i0 q y k j w' := by
  obtain ⟨la, se, i, C, P⟩ := h.pb
  obtain ⟨A, O⟩ := h.ro
  exact ⟨⟨la, se, i, C, P.turned t hk.L1⟩, rd_own h.rd t hk.c1 hk.l1, ⟨A, ro_t O t hk.r1 hk.b1 hk.g1⟩, h.fl.turned t hi, h.tn.over t (by intro x hx; simp at hx; rw [hx]; exact .inl hw), h.lm, h.by_, h.kf, h.ed⟩
theorem SN.cc {W : World} {c l r cb g L gw gh n J f p N : Nat} {s : ByteArray} {x : St} {i0 q : Nat} {y : St} {k j : Int} {w : World} (h : SN W c l r cb g L gw gh n J f p N s x i0 q y k j w) : w.cell? ⟨L, 260, none⟩ = some (.pointer (some ⟨c, 0, none⟩)) := by
  obtain ⟨la, se, i, C, P⟩ := h.pb
  exact P.cc

/-- An end that is told. -/
structure SE (W : World) (c l r cb g L gw gh n J f p N : Nat) (s : ByteArray) (x : St) (i0 : Nat) (q : Nat) (y : St) (k j : Int) (w : World) : Prop where
  rd : Rd c l s q y w
  ro : ∃ A, Ro r l cb g gw gh A w
  fl : Fl i0 0 0 0 w
  tn : Tn W w [c, l, g, L]
  lm : Lm x y
  by_ : y.by_ = x.by_
  ed : ((sq s J).i < n ∧ f ≠ 0 ∧ k = f ∧ j = p ∧ y.r = 0) ∨ (k = 4 ∧ (∃ m : Nat, m ≤ s.size ∧ j = m) ∧ y.r ≠ 0 ∧ x.s < x.st + (N : Int))
theorem nb_lo {b : Nat} (h : b < 128) : nb b = 1 ∧ rdn b = 1 ∧ tms b = 1 := by
  have h1 : nb b = 1 := by unfold nb; rw [if_neg (by omega), if_neg (by omega), if_neg (by omega)]
  exact ⟨h1, by unfold rdn; rw [if_pos h1], by unfold tms; rw [if_pos (by omega)]⟩
theorem nb_mi {b : Nat} (h : 128 ≤ b) (h2 : b < 192) : nb b = 2 ∧ rdn b = 2 ∧ tms b = 1 := by
  have h1 : nb b = 2 := by unfold nb; rw [if_neg (by omega), if_neg (by omega), if_pos ⟨h, h2⟩]
  exact ⟨h1, by unfold rdn; rw [if_neg (by omega)], by unfold tms; rw [if_pos (by omega)]⟩
theorem nb_hi {b : Nat} (h : 192 ≤ b) (h2 : b < 254) : nb b = 1 ∧ rdn b = 1 ∧ tms b = b - 191 := by
  have h1 : nb b = 1 := by unfold nb; rw [if_neg (by omega), if_neg (by omega), if_neg (by omega)]
  exact ⟨h1, by unfold rdn; rw [if_pos h1], by unfold tms; rw [if_neg (by omega)]⟩
section
variable {s : ByteArray} {p : Nat} {last : C4} {seen : Nat → C4}
theorem col_seen (h : bt s p < 64) : colQ s p last seen = seen (bt s p) := by
  unfold colQ; rw [if_neg (by omega), if_neg (by omega), if_pos h]
theorem col_near {b m : Nat} (hb : bt s p = b) (h : 64 ≤ b) (h2 : b < 128) (hm : b - 64 = m) : colQ s p last seen = mv last (((m / 16 : Nat) : Int) - 2) (((m / 4 % 4 : Nat) : Int) - 2) (((m % 4 : Nat) : Int) - 2) := by
  unfold colQ; rw [hb, if_neg (by omega), if_neg (by omega), if_neg (by omega), if_pos h2, hm]
theorem col_far {b : Nat} (hb : bt s p = b) (h : 128 ≤ b) (h2 : b < 192) : colQ s p last seen = mv last (((b : Int) - 160) + ((bt s (p + 1) / 16 : Nat) : Int) - 8) ((b : Int) - 160) (((b : Int) - 160) + ((bt s (p + 1) % 16 : Nat) : Int) - 8) := by
  unfold colQ; rw [hb, if_neg (by omega), if_neg (by omega), if_neg (by omega), if_neg (by omega), if_pos h2]
theorem col_last {b : Nat} (hb : bt s p = b) (h : 192 ≤ b) (h2 : b < 254) : colQ s p last seen = last := by
  unfold colQ; rw [hb, if_neg (by omega), if_neg (by omega), if_neg (by omega), if_neg (by omega), if_neg (by omega)]
end

/-- The pixel is put t times. -/
structure SP (W : World) (c l r cb g L gw gh n : Nat) (s : ByteArray) (x : St) (R : QR) (i0 kb : Nat) (V : C4) (t : Nat) (w : World) : Prop where
  pb : ∃ C, PB L c r R.last R.seen (R.i + t) n C w
  rd : Rd c l s (R.p + nb (bt s R.p)) (stp x (R.N + rdn (bt s R.p) + t)) w
  ro : Ro r l cb g gw gh (rk (CF (nxt s R)) n (R.i + t)) w
  fl : Fl i0 0 0 0 w
  tn : Tn W w [c, l, g, L]
  kc : KC kb V w
theorem SY.sp {W : World} {c l r cb g L gw gh n : Nat} {s : ByteArray} {x : St} {R : QR} {i0 kb : Nat} {w : World} (h : SY W c l r cb g L gw gh n s x R i0 kb w) : SP W c l r cb g L gw gh n s x R i0 kb (colQ s R.p R.last R.seen) 0 w := by
  have e := rk_congr n R.i (fun k hk j => cf_next s R k hk j)
  have o := h.ro
  rw [e] at o
  exact ⟨h.pb, h.rd, o, h.fl, h.tn, h.kc⟩
theorem col_next (s : ByteArray) (R : QR) (t : Nat) : colV (CF (nxt s R)) (R.i + t) = cV (colQ s R.p R.last R.seen) := by
  have e : (nxt s R).px (R.i + t) = colQ s R.p R.last R.seen := if_neg (by omega)
  unfold colV CF
  rw [e]
  rfl
theorem sub3 {c l g L : Nat} : ∀ x, x ∈ [l, g, L] → x ∈ [c, l, g, L] := by
  intro x hx
  simp at hx ⊢
  rcases hx with h | h | h
  · exact .inr (.inl h)
  · exact .inr (.inr (.inl h))
  · exact .inr (.inr (.inr h))
theorem sub4 {c l g L : Nat} : ∀ x, x ∈ [l, g] → x ∈ [c, l, g, L] := by
  intro x hx
  simp at hx ⊢
  rcases hx with h | h
  · exact .inr (.inl h)
  · exact .inr (.inr (.inl h))
theorem sub5 {c l g L : Nat} : ∀ x, x ∈ [L] → x ∈ [c, l, g, L] := by
  intro x hx
  simp at hx ⊢
  exact .inr (.inr (.inr hx))
theorem SP.next {W : World} {c l r cb g L gw gh n : Nat} {s : ByteArray} {x : St} {R : QR} {i0 kb t : Nat} {V : C4} {w w' : World} (h : SP W c l r cb g L gw gh n s x R i0 kb V t w) (hi : i0 ∉ [l, g, L]) (hk : kb ∉ [l, g, L])
    (P : ∃ C, PB L c r R.last R.seen (R.i + t + 1) n C w') (O : Ro r l cb g gw gh (rk (CF (nxt s R)) n (R.i + t + 1)) w') (D : Rd c l s (R.p + nb (bt s R.p)) (stp (stp x (R.N + rdn (bt s R.p) + t)) 1) w') (T : Tn w w' [l, g, L]) : SP W c l r cb g L gw gh n s x R i0 kb V (t + 1) w' := by
  rw [stp_stp] at D
  exact ⟨P, D, O, h.fl.turned T hi, h.tn.trans (T.mono sub3), h.kc.turned T hk⟩
theorem SP.qi {W : World} {c l r cb g L gw gh n : Nat} {s : ByteArray} {x : St} {R : QR} {i0 kb t : Nat} {V : C4} {w w' : World} {C : Array Value} (h : SP W c l r cb g L gw gh n s x R i0 kb V t w) (B : BQ W c l r cb g L) (hi : L ∉ [i0]) (hV : colQ s R.p R.last R.seen = V) (ht : tms (bt s R.p) = t)
    (P : PB L c r R.last R.seen (R.i + t) n C w) (hb : w'.heap[L]? = some (.cells (kpC C V.r V.g V.b V.a) 124 (0, 0))) (T : Tn w w' [L]) : QI W c l r cb g L gw gh n s x (nxt s R) i0 w' := by
  subst hV
  subst ht
  exact ⟨⟨_, P.keep _ hb⟩, rd_own h.rd T (by simp [B.xc.symm]) (by simp [B.xl.symm]), ro_t h.ro T (by simp [B.xr.symm]) (by simp [B.xb.symm]) (by simp [B.xg.symm]), h.fl.turned T (by simp at hi ⊢; exact fun e => hi e.symm), h.tn.trans (T.mono sub5)⟩

set_option maxRecDepth 100000 in
set_option maxHeartbeats 8000000 in
theorem read_calls (c l r cb g L gw gh n J f p N : Nat) (s : ByteArray) (x : St) (W : World) (B : BQ W c l r cb g L) (hw : gw ≤ 16384) (hh : gh ≤ 16384) (hn : gw * gh = n) (hr : x.r = 0) (E : QE s n J f p N)
    (P : ∃ C, PB L c r R0.last R0.seen 0 n C W) (R : Rd c l s 14 x W) (O : Ro r l cb g gw gh (Bu.rep 0 (4 * n)) W) :
    Calls Tryz.prog 49 #[.pointer (some ⟨L, 0, none⟩)] W (RQ W c l r cb g L gw gh n J f p N s x) := by
  obtain ⟨Q, hQ⟩ : ∃ Q, RQ W c l r cb g L gw gh n J f p N s x = Q := ⟨_, rfl⟩
  rw [hQ]
  have HQ := Lib.hid hQ
  have HB := Lib.hid B
  have HE := Lib.hid E
  have g0 := World.grownBy_alloc W (.cells #[.int .i64 0, .int .i64 0, .int .i64 0] 29) none
  have t0 : Tn W (W.alloc (.cells #[.int .i64 0, .int .i64 0, .int .i64 0] 29)) [c, l, g, L] := Tn.gb g0 (by simp)
  obtain ⟨C0, P0⟩ := P
  have HI0 := Lib.hid (show QI W c l r cb g L gw gh n s x (sq s 0) W.heap.size (W.alloc (.cells #[.int .i64 0, .int .i64 0, .int .i64 0] 29)) from
    ⟨⟨C0, P0.turned (Tn.gb g0 (S := []) (by simp)) (by simp)⟩, by show Rd c l s 14 (stp x 0) _; rw [stp_0]; exact R.grown g0, O.grown g0 (by simp) (by simp) (by simp), Fl.new W, t0⟩)
  have HX := Lib.hid (And.intro hr (And.intro hn (And.intro hw hh)))
  obtain ⟨i0, hi0⟩ : ∃ i, W.heap.size = i := ⟨_, rfl⟩
  have HZ := Lib.hid hi0
  have HNE := Lib.hid (NE.of B hi0)
  clear hQ B E g0 t0 P0 R O hr hn hw hh
  go_enter Tryz.func49, Tryz.ntmps49
  go_wp2_with fail
  rw [hi0] at HI0
  generalize W.alloc (.cells #[.int .i64 0, .int .i64 0, .int .i64 0] 29) = w0 at HI0 ⊢
  clear hi0
  go_step3
  go_wp2_with fail
  go_step3
  go_wp2_with fail
  go_loopg [] (n + 1) (fun q wr => ∃ j, j ≤ J ∧ q = n + 1 - (sq s j).i ∧ QI W c l r cb g L gw gh n s x (sq s j) i0 wr)
  case atStart => exact ⟨0, Nat.zero_le _, rfl, HI0.out⟩
  case round =>
    obtain ⟨j, hj, rfl, I⟩ := hrel
    have HJ := Lib.hid hj
    have hin0 := HE.out.ij hj
    have HF0 := Lib.hid (fun h => HE.out.facts hj h)
    have HOK := Lib.hid (okr s j)
    have HOK2 := Lib.hid (okr s (j + 1))
    have HNX := Lib.hid (show sq s (j + 1) = nxt s (sq s j) from rfl)
    have HEND := Lib.hid (fun (h : (sq s j).i = n) => show j = J by
      by_cases e : j = J
      · exact e
      · exact absurd (HE.out.go j (by omega)).i (by omega))
    obtain ⟨R1, hR1⟩ : ∃ R, sq s j = R := ⟨_, rfl⟩
    rw [hR1] at I hin0 HF0 HOK HNX HEND
    have HR1 := Lib.hid hR1
    have HI := Lib.hid I
    obtain ⟨C, P⟩ := I.pb
    have cn := P.cn
    have HP := Lib.hid P
    clear I HI0 P hR1
    obtain ⟨D, hD⟩ : ∃ D : Int, (n : Int) - (R1.i : Int) = D := ⟨_, rfl⟩
    rw [hD] at cn
    have HDD := Lib.hid hD
    clear hD
    by_cases hin : R1.i < n
    · have d0 : (0 : Int) < D := by have := HDD.out; omega
      have HF := Lib.hid (HF0.out hin)
      have KA := Lib.hid (at_rd c l s _ _ wr HI.out.rd)
      have cc := HP.out.cc
      have HIN := Lib.hid hin
      have hrr : (stp x R1.N).r = 0 := HX.out.1
      obtain ⟨p0, hp0⟩ : ∃ q, R1.p = q := ⟨_, rfl⟩
      rw [hp0] at KA
      have HP0 := Lib.hid hp0
      have HRD := Lib.hid (show Rd c l s p0 (stp x R1.N) wr by rw [← hp0]; exact HI.out.rd)
      clear hin HF0 hin0 hj hp0
      go_wp2_with fail
      refine KA.out.mono ?_
      rintro e w' ⟨rfl, rfl⟩
      clear KA
      by_cases hu : s.size < p0 + 1 ∨ (stp x R1.N).s < (stp x R1.N).st + 1
      · obtain ⟨y, k, jj, hno, KU, KF⟩ := u8_n HRD.out hrr hu
        have KU := Lib.hid KU
        have HKF := Lib.hid KF
        have HNO := Lib.hid hno
        clear hno hu KF
        go_wp2_with fail
        refine KU.out.mono ?_
        rintro e w2 ⟨rfl, R2, T2⟩
        have HSN := Lib.hid (show SN W c l r cb g L gw gh n J f p N s x i0 p0 y k jj w2 from by
          have h1 := HF.out.n1
          refine ⟨⟨_, _, _, C, HP.out.turned T2 HNE.out.L2⟩, R2, ⟨_, ro_t HI.out.ro T2 HNE.out.r2 HNE.out.b2 HNE.out.g2⟩, HI.out.fl.turned T2 HNE.out.i2, HI.out.tn.trans (T2.mono sub2), ?_, ?_, fun u => HKF.out 5 u, ?_⟩
          · exact (lm_stp x R1.N).trans (nor_lm HNO.out (c := c) (l := l))
          · rcases HNO.out with ⟨_, _, rfl, _⟩ | ⟨_, rfl, _⟩ <;> rfl
          · rcases HNO.out with ⟨a1, a2, rfl, rfl, rfl⟩ | ⟨a1, rfl, rfl, rfl⟩
            · have h2 := HF.out.short (.inl (by rw [HP0.out]; omega))
              exact .inl ⟨h2.1, by rw [h2.2.1]; decide, by rw [h2.2.1]; rfl, by rw [h2.2.2], HX.out.1⟩
            · refine .inr ⟨rfl, ⟨p0, HRD.out.so.pt, rfl⟩, by show (3 : Int) ≠ 0; decide, ?_⟩
              rw [stp_s, stp_t] at a1
              omega)
        have P2 := HP.out.turned T2 HNE.out.L2
        clear R2 T2 KU HI HP HRD HNO HKF
        have l0 := P2.l0
        have l1 := P2.l1
        have l2 := P2.l2
        have l3 := P2.l3
        clear P2
        have HSN3 := Lib.hid (HSN.out.grown (World.grownBy_alloc w2 (.cells #[.int .u8 (R1.last.r : Nat), .int .u8 (R1.last.g : Nat), .int .u8 (R1.last.b : Nat), .int .u8 (R1.last.a : Nat)] 67) none))
        clear HSN
        have HSN := HSN3
        clear HSN3
        go_upto_region 7 with fail
        generalize w2.alloc (.cells #[.int .u8 (R1.last.r : Nat), .int .u8 (R1.last.g : Nat), .int .u8 (R1.last.b : Nat), .int .u8 (R1.last.a : Nat)] 67) = w3 at HSN ⊢
        clear l0 l1 l2 l3
        have c26 := HSN.out.cc
        go_wp2_with fail
        refine (HSN.out.kf _ HSN.out.rd).mono ?_
        rintro e w8 ⟨rfl, R8, g8⟩
        have FZ := HSN.out.fl.turned (Tn.gb g8 (S := []) (by simp)) (by simp)
        have q0 := FZ.c0
        have q1 := FZ.c1
        have q2 := FZ.c2
        have qf0 := FZ.free 0
        have qf1 := FZ.free 1
        have qf2 := FZ.free 2
        have hlz := FZ.lt
        have HT8 := Lib.hid (HSN.out.tn.trans (Tn.gb g8 (by simp)))
        have HR8 := Lib.hid R8
        have HO8 := Lib.hid (HSN.out.ro.elim (fun A h => (⟨A, h.grown g8 (by simp) (by simp) (by simp)⟩ : ∃ A, Ro r l cb g gw gh A w8)))
        have HFF := Lib.hid (FZ.set k 5 jj)
        clear R8 g8 c26 FZ
        go_upto_region 28 with fail
        have t6 : Tn w8 (((w8.setCell ⟨i0, 0, none⟩ (.int .i64 k)).setCell ⟨i0, 1, none⟩ (.int .i64 5)).setCell ⟨i0, 2, none⟩ (.int .i64 jj)) [i0] := (((Tn.refl w8 [i0]).st (by simp)).st (by simp)).st (by simp)
        have HT9 := Lib.hid t6
        clear t6 q0 q1 q2 qf0 qf1 qf2 hlz
        generalize (((w8.setCell ⟨i0, 0, none⟩ (.int .i64 k)).setCell ⟨i0, 1, none⟩ (.int .i64 5)).setCell ⟨i0, 2, none⟩ (.int .i64 jj)) = w9 at HFF HT9 ⊢
        have q0 := HFF.out.c0
        have q1 := HFF.out.c1
        have q2 := HFF.out.c2
        have qf0 := HFF.out.free 0
        have qf1 := HFF.out.free 1
        have qf2 := HFF.out.free 2
        have hlz := HFF.out.lt
        go_wp2
        try rw [Exit.noGoto_ret]
        refine bodyPost_ret (v := flF 5 k jj) (by simp only [results, Tryz.results49, flF]; go_simp) rfl ?_
        rw [← HQ.out]
        have t7 : Tn w9 (((w9.setCell ⟨i0, 0, none⟩ (.int .i64 k)).setCell ⟨i0, 1, none⟩ (.int .i64 5)).setCell ⟨i0, 2, none⟩ (.int .i64 jj)) [i0] := (((Tn.refl w9 [i0]).st (by simp)).st (by simp)).st (by simp)
        have t6 := HT9.out.trans t7
        obtain ⟨A, hA⟩ := HO8.out
        refine ⟨_, _, rd_own HR8.out t6 HNE.out.c1 HNE.out.l1, HT8.out.over t6 (ge1 HZ.out), HSN.out.lm, HSN.out.by_, ⟨A, ro_t hA t6 HNE.out.r1 HNE.out.b1 HNE.out.g1⟩, ?_⟩
        rcases HSN.out.ed with ⟨a1, a2, a3, a4, a5⟩ | ⟨a1, ⟨m, a2, a3⟩, a4, a5⟩
        · exact .inr (.inl ⟨a1, a2, by rw [a3, a4], a5⟩)
        · exact .inr (.inr ⟨a5, ⟨m, a2, by rw [a1, a3]⟩, a4⟩)
      · have hp1 : p0 < s.size := by omega
        have hst1 : (stp x R1.N).st + 1 ≤ (stp x R1.N).s := by omega
        have KU := u8_byte c l s p0 (stp x R1.N) wr HRD.out hrr hst1 hp1
        rw [stp_stp] at KU
        have KU := Lib.hid KU
        have b256 := bt_lt s p0
        obtain ⟨b, hb⟩ : ∃ b, bt s p0 = b := ⟨_, rfl⟩
        rw [hb] at KU b256
        have HBT := Lib.hid hb
        have hA63 := and63 b b256
        obtain ⟨n6, hn6⟩ : ∃ q, b % 64 = q := ⟨_, rfl⟩
        rw [hn6] at hA63
        obtain ⟨h6, hh6⟩ : ∃ q, b / 64 = q := ⟨_, rfl⟩
        have e64 : (b : Int) / 64 = (h6 : Int) := by omega
        have HN6 := Lib.hid (show 64 * h6 + n6 = b ∧ n6 < 64 by omega)
        have w64 : IntKind.i64.wrap (h6 : Int) = (h6 : Int) := IntWalk.i64_in _ (by omega)
        have HPS := Lib.hid hp1
        clear hb hu hst1 hp1 hn6 hh6
        go_wp2_with fail
        refine KU.out.mono ?_
        rintro e w2 ⟨rfl, R2, T2⟩
        have P2 := HP.out.turned T2 HNE.out.L2
        have o2 := ro_t HI.out.ro T2 HNE.out.r2 HNE.out.b2 HNE.out.g2
        have f2 := HI.out.fl.turned T2 HNE.out.i2
        have t2 := HI.out.tn.trans (T2.mono sub2 : Tn wr w2 [c, l, g, L])
        have g3 := World.grownBy_alloc w2 (.cells #[.int .u8 (R1.last.r : Nat), .int .u8 (R1.last.g : Nat), .int .u8 (R1.last.b : Nat), .int .u8 (R1.last.a : Nat)] 67) none
        have l0 := P2.l0
        have l1 := P2.l1
        have l2 := P2.l2
        have l3 := P2.l3
        have hLw := P2.lt
        have hf2 := f2.lt
        have HP3 := Lib.hid (P2.turned (Tn.gb g3 (S := []) (by simp)) (by simp))
        have HR3 := Lib.hid (R2.grown g3)
        have HO3 := Lib.hid (o2.grown g3 (by simp) (by simp) (by simp))
        have HF3 := Lib.hid (f2.turned (Tn.gb g3 (S := []) (by simp)) (by simp))
        have HT3 := Lib.hid (t2.trans (Tn.gb g3 (by simp)))
        have HK3 := Lib.hid (show KC w2.heap.size R1.last (w2.alloc (.cells #[.int .u8 (R1.last.r : Nat), .int .u8 (R1.last.g : Nat), .int .u8 (R1.last.b : Nat), .int .u8 (R1.last.a : Nat)] 67)) from blk_at)
        have hk1 := o2.lt
        have hk2 := o2.buf.lt
        have hk3 := o2.buf.glt
        have hk4 := R2.clt
        have hk5 := R2.llt
        obtain ⟨kb, hkb⟩ : ∃ k, w2.heap.size = k := ⟨_, rfl⟩
        rw [hkb] at HK3 hLw hf2 hk1 hk2 hk3 hk4 hk5
        have HKB := Lib.hid (show W.heap.size ≤ kb by rw [← hkb]; exact t2.size)
        have HNK := Lib.hid (show NE c l r cb g L kb from NK.of HNE.out (by omega) (by omega) (by omega) (by omega) (by omega) (by omega))
        have HKI := Lib.hid (show kb ∉ [i0] ∧ i0 ∉ [kb] from ⟨by simp; omega, by simp; omega⟩)
        clear P2 o2 f2 t2 g3 R2 T2 KU HP HI HRD hLw hf2 hk1 hk2 hk3 hk4 hk5
        go_upto_block 2 with fail
        generalize w2.alloc (.cells #[.int .u8 (R1.last.r : Nat), .int .u8 (R1.last.g : Nat), .int .u8 (R1.last.b : Nat), .int .u8 (R1.last.a : Nat)] 67) = w3 at HP3 HR3 HO3 HF3 HT3 HK3 ⊢
        clear l0 l1 l2 l3 hkb hA63
        have k0 := HK3.out.c0
        have k1 := HK3.out.c1
        have k2 := HK3.out.c2
        have k3 := HK3.out.c3
        have kf0 := HK3.out.f 0
        have kf1 := HK3.out.f 1
        have kf2 := HK3.out.f 2
        have kf3 := HK3.out.f 3
        have hkl := blk_lt HK3.out
        conv => arg 4; dsimp only
        go_cut [5, 8] from 34 to 105 (fun okv tv wx => (okv = .bool true ∧ tv = .int .i64 (tms b : Nat) ∧ SY W c l r cb g L gw gh n s x R1 i0 kb wx) ∨ (okv = .bool false ∧ ∃ q y k jj, SN W c l r cb g L gw gh n J f p N s x i0 q y k jj wx))
        case first =>
          by_cases h254 : b = 254
          · have HBV := Lib.hid h254
            have e1 : ((b : Int) == 254) = true := by rw [h254]; rfl
            clear h254
            have HNB := Lib.hid (show R1.p + nb (bt s R1.p) = p0 + 1 + 3 ∧ R1.N + rdn (bt s R1.p) = R1.N + 1 + 1 by rw [HP0.out, HBT.out, HBV.out]; exact ⟨rfl, rfl⟩)
            have HTM := Lib.hid (show tms b = 1 by rw [HBV.out]; rfl)
            have hrr2 : (stp x (R1.N + 1)).r = 0 := HX.out.1
            by_cases hq : s.size < p0 + 1 + 3 ∨ (stp x (R1.N + 1)).s < (stp x (R1.N + 1)).st + 1
            · obtain ⟨y, k, jj, hno, KW, KF⟩ := whole_n L c l r R1.i n 3 (p0 + 1) s R1.last R1.seen C (stp x (R1.N + 1)) w3 HP3.out HR3.out hrr2 hq HB.out.xc HB.out.xl
              have KW := Lib.hid KW
              have HKF := Lib.hid KF
              have HNO := Lib.hid hno
              unfold cV cQ at KW
              simp only at KW
              clear hno hq KF
              go_wp2_with fail
              refine KW.out.mono ?_
              rintro e w5 ⟨rfl, R5, T5⟩
              have K5 := HK3.out.turned T5 HNK.out.i2
              have HSN := Lib.hid (show SN W c l r cb g L gw gh n J f p N s x i0 (p0 + 1) y k jj w5 from by
                have h1 := HF.out.n2
                refine ⟨⟨_, _, _, C, HP3.out.turned T5 HNE.out.L2⟩, R5, ⟨_, ro_t HO3.out T5 HNE.out.r2 HNE.out.b2 HNE.out.g2⟩, HF3.out.turned T5 HNE.out.i2, HT3.out.trans (T5.mono sub2), ?_, ?_, fun u => HKF.out 5 u, ?_⟩
                · exact (lm_stp x (R1.N + 1)).trans (nor_lm HNO.out (c := c) (l := l))
                · rcases HNO.out with ⟨_, _, rfl, _⟩ | ⟨_, rfl, _⟩ <;> rfl
                · rcases HNO.out with ⟨a1, a2, rfl, rfl, rfl⟩ | ⟨a1, rfl, rfl, rfl⟩
                  · have h2 := HF.out.short (.inr (by rw [HNB.out.1]; exact a1))
                    exact .inl ⟨h2.1, by rw [h2.2.1]; decide, by rw [h2.2.1]; rfl, by rw [h2.2.2], HX.out.1⟩
                  · refine .inr ⟨rfl, ⟨p0 + 1, by have := HPS.out; omega, rfl⟩, by show (3 : Int) ≠ 0; decide, ?_⟩
                    have h2 := h1 (by rw [HP0.out]; exact HPS.out) (by rw [HP0.out, HBT.out, HBV.out]; decide)
                    rw [stp_s, stp_t] at a1
                    omega)
              have hk5 := blk_lt K5
              have k0 := K5.c0
              have k1 := K5.c1
              have k2 := K5.c2
              have k3 := K5.c3
              have kf0 := K5.f 0
              have kf1 := K5.f 1
              have kf2 := K5.f 2
              have kf3 := K5.f 3
              clear R5 T5 KW K5 HNO HKF
              go_wp2_with fail
              go_meet
              have t6 := tn_kc w5 kb (.int .u8 0) (.int .u8 0) (.int .u8 0) (.int .u8 0)
              case rel => exact .inr ⟨rfl, _, _, _, _, HSN.out.over t6 HNK.out HKI.out.2 HKB.out⟩
            · have KW0 := whole_y L c l r R1.i n 3 (p0 + 1) s R1.last R1.seen C (stp x (R1.N + 1)) w3 HP3.out HR3.out hrr2 (by omega) (by decide) (by omega) HB.out.xc HB.out.xl
              obtain ⟨V, hV⟩ : ∃ V : C4, (⟨bt s (p0 + 1), bt s (p0 + 1 + 1), bt s (p0 + 1 + 2), R1.last.a⟩ : C4) = V := ⟨_, rfl⟩
              have hKW : Calls Tryz.prog 73 #[.pointer (some ⟨L, 0, none⟩), .int .i64 3] w3 fun e w' => e = .returned (.tuple #[.agg #[.int .u8 (V.r : Nat), .int .u8 (V.g : Nat), .int .u8 (V.b : Nat), .int .u8 (V.a : Nat)], .bool true]) ∧ Rd c l s (p0 + 1 + 3) (stp x (R1.N + 1 + 1)) w' ∧ Tn w3 w' [c, l] := by
                rw [← hV]
                rw [stp_stp] at KW0
                exact KW0
              clear KW0
              have KW := Lib.hid hKW
              have HV := Lib.hid (show colQ s R1.p R1.last R1.seen = V by rw [← hV, HP0.out]; unfold colQ; rw [HBT.out, HBV.out]; rfl)
              have HGQ := Lib.hid (show Gq s n R1 from ⟨HIN.out, by rw [HP0.out]; exact HPS.out, by rw [HNB.out.1]; omega, by rw [HP0.out, HBT.out, HTM.out]; have := HIN.out; omega⟩)
              clear hKW hV hq
              go_wp2_with fail
              refine KW.out.mono ?_
              rintro e w5 ⟨rfl, R5, T5⟩
              have HP5 := Lib.hid (HP3.out.turned T5 HNE.out.L2)
              have HR5 := Lib.hid R5
              have HO5 := Lib.hid (ro_t HO3.out T5 HNE.out.r2 HNE.out.b2 HNE.out.g2)
              have HF5 := Lib.hid (HF3.out.turned T5 HNE.out.i2)
              have HT5 := Lib.hid (HT3.out.trans (T5.mono sub2))
              have HK5 := Lib.hid (HK3.out.turned T5 HNK.out.i2)
              clear R5 T5 KW k0 k1 k2 k3 kf0 kf1 kf2 kf3 hkl
              have hk5 := blk_lt HK5.out
              have k0 := HK5.out.c0
              have k1 := HK5.out.c1
              have k2 := HK5.out.c2
              have k3 := HK5.out.c3
              have kf0 := HK5.out.f 0
              have kf1 := HK5.out.f 1
              have kf2 := HK5.out.f 2
              have kf3 := HK5.out.f 3
              go_wp2_with fail
              go_meet
              have t6 := tn_kc w5 kb (.int .u8 (V.r : Nat)) (.int .u8 (V.g : Nat)) (.int .u8 (V.b : Nat)) (.int .u8 (V.a : Nat))
              case rel => exact .inl ⟨rfl, by rw [HTM.out]; rfl, ⟨⟨_, HP5.out.turned t6 HNK.out.L1⟩, by rw [HNB.out.1, HNB.out.2]; exact rd_own HR5.out t6 HNK.out.c1 HNK.out.l1, ro_t HO5.out t6 HNK.out.r1 HNK.out.b1 HNK.out.g1, HF5.out.turned t6 HKI.out.2, HT5.out.over t6 (by intro x hx; simp at hx; rw [hx]; exact .inl HKB.out), by rw [HV.out]; exact HK5.out.set V, HGQ.out⟩⟩
          · have e254 : ((b : Int) == 254) = false := by rw [beq_eq_false_iff_ne]; omega
            by_cases h255 : b = 255
            · have HBV := Lib.hid h255
              have e1 : ((b : Int) == 255) = true := by rw [h255]; rfl
              clear h255 h254
              have HNB := Lib.hid (show R1.p + nb (bt s R1.p) = p0 + 1 + 4 ∧ R1.N + rdn (bt s R1.p) = R1.N + 1 + 1 by rw [HP0.out, HBT.out, HBV.out]; exact ⟨rfl, rfl⟩)
              have HTM := Lib.hid (show tms b = 1 by rw [HBV.out]; rfl)
              have hrr2 : (stp x (R1.N + 1)).r = 0 := HX.out.1
              by_cases hq : s.size < p0 + 1 + 4 ∨ (stp x (R1.N + 1)).s < (stp x (R1.N + 1)).st + 1
              · obtain ⟨y, k, jj, hno, KW, KF⟩ := whole_n L c l r R1.i n 4 (p0 + 1) s R1.last R1.seen C (stp x (R1.N + 1)) w3 HP3.out HR3.out hrr2 hq HB.out.xc HB.out.xl
                have KW := Lib.hid KW
                have HKF := Lib.hid KF
                have HNO := Lib.hid hno
                unfold cV cQ at KW
                simp only at KW
                clear hno hq KF
                go_wp2_with fail
                refine KW.out.mono ?_
                rintro e w5 ⟨rfl, R5, T5⟩
                have K5 := HK3.out.turned T5 HNK.out.i2
                have HSN := Lib.hid (show SN W c l r cb g L gw gh n J f p N s x i0 (p0 + 1) y k jj w5 from by
                  have h1 := HF.out.n2
                  refine ⟨⟨_, _, _, C, HP3.out.turned T5 HNE.out.L2⟩, R5, ⟨_, ro_t HO3.out T5 HNE.out.r2 HNE.out.b2 HNE.out.g2⟩, HF3.out.turned T5 HNE.out.i2, HT3.out.trans (T5.mono sub2), ?_, ?_, fun u => HKF.out 5 u, ?_⟩
                  · exact (lm_stp x (R1.N + 1)).trans (nor_lm HNO.out (c := c) (l := l))
                  · rcases HNO.out with ⟨_, _, rfl, _⟩ | ⟨_, rfl, _⟩ <;> rfl
                  · rcases HNO.out with ⟨a1, a2, rfl, rfl, rfl⟩ | ⟨a1, rfl, rfl, rfl⟩
                    · have h2 := HF.out.short (.inr (by rw [HNB.out.1]; exact a1))
                      exact .inl ⟨h2.1, by rw [h2.2.1]; decide, by rw [h2.2.1]; rfl, by rw [h2.2.2], HX.out.1⟩
                    · refine .inr ⟨rfl, ⟨p0 + 1, by have := HPS.out; omega, rfl⟩, by show (3 : Int) ≠ 0; decide, ?_⟩
                      have h2 := h1 (by rw [HP0.out]; exact HPS.out) (by rw [HP0.out, HBT.out, HBV.out]; decide)
                      rw [stp_s, stp_t] at a1
                      omega)
                have hk5 := blk_lt K5
                have k0 := K5.c0
                have k1 := K5.c1
                have k2 := K5.c2
                have k3 := K5.c3
                have kf0 := K5.f 0
                have kf1 := K5.f 1
                have kf2 := K5.f 2
                have kf3 := K5.f 3
                clear R5 T5 KW K5 HNO HKF
                go_wp2_with fail
                go_meet
                have t6 := tn_kc w5 kb (.int .u8 0) (.int .u8 0) (.int .u8 0) (.int .u8 0)
                case rel => exact .inr ⟨rfl, _, _, _, _, HSN.out.over t6 HNK.out HKI.out.2 HKB.out⟩
              · have KW0 := whole_y L c l r R1.i n 4 (p0 + 1) s R1.last R1.seen C (stp x (R1.N + 1)) w3 HP3.out HR3.out hrr2 (by omega) (by decide) (by omega) HB.out.xc HB.out.xl
                obtain ⟨V, hV⟩ : ∃ V : C4, (⟨bt s (p0 + 1), bt s (p0 + 1 + 1), bt s (p0 + 1 + 2), bt s (p0 + 1 + 3)⟩ : C4) = V := ⟨_, rfl⟩
                have hKW : Calls Tryz.prog 73 #[.pointer (some ⟨L, 0, none⟩), .int .i64 4] w3 fun e w' => e = .returned (.tuple #[.agg #[.int .u8 (V.r : Nat), .int .u8 (V.g : Nat), .int .u8 (V.b : Nat), .int .u8 (V.a : Nat)], .bool true]) ∧ Rd c l s (p0 + 1 + 4) (stp x (R1.N + 1 + 1)) w' ∧ Tn w3 w' [c, l] := by
                  rw [← hV]
                  rw [stp_stp] at KW0
                  exact KW0
                clear KW0
                have KW := Lib.hid hKW
                have HV := Lib.hid (show colQ s R1.p R1.last R1.seen = V by rw [← hV, HP0.out]; unfold colQ; rw [HBT.out, HBV.out]; rfl)
                have HGQ := Lib.hid (show Gq s n R1 from ⟨HIN.out, by rw [HP0.out]; exact HPS.out, by rw [HNB.out.1]; omega, by rw [HP0.out, HBT.out, HTM.out]; have := HIN.out; omega⟩)
                clear hKW hV hq
                go_wp2_with fail
                refine KW.out.mono ?_
                rintro e w5 ⟨rfl, R5, T5⟩
                have HP5 := Lib.hid (HP3.out.turned T5 HNE.out.L2)
                have HR5 := Lib.hid R5
                have HO5 := Lib.hid (ro_t HO3.out T5 HNE.out.r2 HNE.out.b2 HNE.out.g2)
                have HF5 := Lib.hid (HF3.out.turned T5 HNE.out.i2)
                have HT5 := Lib.hid (HT3.out.trans (T5.mono sub2))
                have HK5 := Lib.hid (HK3.out.turned T5 HNK.out.i2)
                clear R5 T5 KW k0 k1 k2 k3 kf0 kf1 kf2 kf3 hkl
                have hk5 := blk_lt HK5.out
                have k0 := HK5.out.c0
                have k1 := HK5.out.c1
                have k2 := HK5.out.c2
                have k3 := HK5.out.c3
                have kf0 := HK5.out.f 0
                have kf1 := HK5.out.f 1
                have kf2 := HK5.out.f 2
                have kf3 := HK5.out.f 3
                go_wp2_with fail
                go_meet
                have t6 := tn_kc w5 kb (.int .u8 (V.r : Nat)) (.int .u8 (V.g : Nat)) (.int .u8 (V.b : Nat)) (.int .u8 (V.a : Nat))
                case rel => exact .inl ⟨rfl, by rw [HTM.out]; rfl, ⟨⟨_, HP5.out.turned t6 HNK.out.L1⟩, by rw [HNB.out.1, HNB.out.2]; exact rd_own HR5.out t6 HNK.out.c1 HNK.out.l1, ro_t HO5.out t6 HNK.out.r1 HNK.out.b1 HNK.out.g1, HF5.out.turned t6 HKI.out.2, HT5.out.over t6 (by intro x hx; simp at hx; rw [hx]; exact .inl HKB.out), by rw [HV.out]; exact HK5.out.set V, HGQ.out⟩⟩
            · have e255 : ((b : Int) == 255) = false := by rw [beq_eq_false_iff_ne]; omega
              by_cases hlo : b < 64
              · clear h254 h255
                have hx := nb_lo (show b < 128 by omega)
                have hn6b : n6 = b := by have := HN6.out; omega
                have hh0 : h6 = 0 := by have := HN6.out; omega
                have t0 : ((h6 : Int) == 0) = true := by rw [hh0]; rfl
                have HNB := Lib.hid (show R1.p + nb (bt s R1.p) = p0 + 1 ∧ R1.N + rdn (bt s R1.p) = R1.N + 1 by rw [HP0.out, HBT.out, hx.1, hx.2.1]; exact ⟨rfl, rfl⟩)
                have HTM := Lib.hid (show tms b = 1 by rw [hx.2.2])
                have HGQ := Lib.hid (show Gq s n R1 from ⟨HIN.out, by rw [HP0.out]; exact HPS.out, by rw [HNB.out.1]; have := HPS.out; omega, by rw [HP0.out, HBT.out, HTM.out]; have := HIN.out; omega⟩)
                obtain ⟨V, hV⟩ : ∃ V : C4, R1.seen n6 = V := ⟨_, rfl⟩
                have HV := Lib.hid (show colQ s R1.p R1.last R1.seen = V by rw [← hV, HP0.out, col_seen (by rw [HBT.out]; exact hlo), HBT.out, hn6b])
                have hn64 := HN6.out.2
                obtain ⟨q, hq⟩ : ∃ q, 4 + 4 * n6 = q := ⟨_, rfl⟩
                have sc : ∀ jx, jx < 4 → w3.cell? ⟨L, q + jx, none⟩ = some (.int .u8 (V.ch jx : Nat)) := fun jx hjx => by
                  rw [← hq, ← hV]
                  exact (blk_cell HP3.out.blk _).trans (HP3.out.mc.seen n6 jx hn64 hjx)
                have s0 : w3.cell? ⟨L, q, none⟩ = some (.int .u8 (V.r : Nat)) := sc 0 (by decide)
                have s1 : w3.cell? ⟨L, q + 1, none⟩ = some (.int .u8 (V.g : Nat)) := sc 1 (by decide)
                have s2 : w3.cell? ⟨L, q + 2, none⟩ = some (.int .u8 (V.b : Nat)) := sc 2 (by decide)
                have s3 : w3.cell? ⟨L, q + 3, none⟩ = some (.int .u8 (V.a : Nat)) := sc 3 (by decide)
                have hq2 : 4 + n6 * 4 = q := by omega
                have hd6 : decide ((n6 : Int) < 64) = true := decide_eq_true (by omega)
                have hd7 : (n6 : Int) < 64 := by omega
                have HP5 := HP3
                have HR5 := HR3
                have HO5 := HO3
                have HF5 := HF3
                have HT5 := HT3
                have HK5 := HK3
                clear sc hV hn6b hh0 hlo hx k0 k1 k2 k3 kf0 kf1 kf2 kf3 hkl
                have hk5 := blk_lt HK5.out
                have k0 := HK5.out.c0
                have k1 := HK5.out.c1
                have k2 := HK5.out.c2
                have k3 := HK5.out.c3
                have kf0 := HK5.out.f 0
                have kf1 := HK5.out.f 1
                have kf2 := HK5.out.f 2
                have kf3 := HK5.out.f 3
                go_wp2_with fail
                go_meet
                have t6 := tn_kc w3 kb (.int .u8 (V.r : Nat)) (.int .u8 (V.g : Nat)) (.int .u8 (V.b : Nat)) (.int .u8 (V.a : Nat))
                case rel => exact .inl ⟨rfl, by rw [HTM.out]; rfl, ⟨⟨_, HP5.out.turned t6 HNK.out.L1⟩, by rw [HNB.out.1, HNB.out.2]; exact rd_own HR5.out t6 HNK.out.c1 HNK.out.l1, ro_t HO5.out t6 HNK.out.r1 HNK.out.b1 HNK.out.g1, HF5.out.turned t6 HKI.out.2, HT5.out.over t6 (by intro x hx; simp at hx; rw [hx]; exact .inl HKB.out), by rw [HV.out]; exact HK5.out.set V, HGQ.out⟩⟩
              · by_cases hlo2 : b < 128
                · replace hlo : 64 ≤ b := by omega
                  clear h254 h255
                  have hx := nb_lo (show b < 128 by omega)
                  have hh0 : h6 = 1 := by have := HN6.out; omega
                  have hb64 : b - 64 = n6 := by have := HN6.out; omega
                  have t0 : ((h6 : Int) == 0) = false := by rw [hh0]; rfl
                  have t1 : ((h6 : Int) == 1) = true := by rw [hh0]; rfl
                  have HNB := Lib.hid (show R1.p + nb (bt s R1.p) = p0 + 1 ∧ R1.N + rdn (bt s R1.p) = R1.N + 1 by rw [HP0.out, HBT.out, hx.1, hx.2.1]; exact ⟨rfl, rfl⟩)
                  have HTM := Lib.hid (show tms b = 1 by rw [hx.2.2])
                  have HGQ := Lib.hid (show Gq s n R1 from ⟨HIN.out, by rw [HP0.out]; exact HPS.out, by rw [HNB.out.1]; have := HPS.out; omega, by rw [HP0.out, HBT.out, HTM.out]; have := HIN.out; omega⟩)
                  have hn64 := HN6.out.2
                  obtain ⟨a1, ha1⟩ : ∃ a, n6 / 16 = a := ⟨_, rfl⟩
                  obtain ⟨a2, ha2⟩ : ∃ a, n6 / 4 = a := ⟨_, rfl⟩
                  obtain ⟨a3, ha3⟩ : ∃ a, a2 % 4 = a := ⟨_, rfl⟩
                  obtain ⟨a4, ha4⟩ : ∃ a, n6 % 4 = a := ⟨_, rfl⟩
                  have z1 : (n6 : Int) / 16 = (a1 : Int) := by omega
                  have z2 : (n6 : Int) / 4 = (a2 : Int) := by omega
                  have z3 := and3 a2 (by omega)
                  have z4 := and3 n6 (by omega)
                  rw [ha3] at z3
                  rw [ha4] at z4
                  have b1 : a1 ≤ 3 := by omega
                  have b2 : a2 ≤ 15 := by omega
                  have b3 : a3 ≤ 3 := by omega
                  have b4 : a4 ≤ 3 := by omega
                  have v1 : IntKind.i64.wrap (a1 : Int) = (a1 : Int) := IntWalk.i64_in _ (by omega)
                  have v2 : IntKind.i64.wrap (a2 : Int) = (a2 : Int) := IntWalk.i64_in _ (by omega)
                  have v3 : IntKind.i64.wrap ((a1 : Int) - 2) = (a1 : Int) - 2 := IntWalk.i64_in _ (by omega)
                  have v4 : IntKind.i64.wrap ((a3 : Int) - 2) = (a3 : Int) - 2 := IntWalk.i64_in _ (by omega)
                  have v5 : IntKind.i64.wrap ((a4 : Int) - 2) = (a4 : Int) - 2 := IntWalk.i64_in _ (by omega)
                  have KM := fun u => moved_calls R1.last HOK.out.last ((a1 : Int) - 2) ((a3 : Int) - 2) ((a4 : Int) - 2) u
                  obtain ⟨V, hV⟩ : ∃ V : C4, mv R1.last ((a1 : Int) - 2) ((a3 : Int) - 2) ((a4 : Int) - 2) = V := ⟨_, rfl⟩
                  rw [hV] at KM
                  unfold cV cQ at KM
                  have KM := Lib.hid KM
                  have HV := Lib.hid (show colQ s R1.p R1.last R1.seen = V by rw [← hV, HP0.out, col_near HBT.out hlo hlo2 hb64, ha1, ha2, ha3, ha4])
                  have l0 := HP3.out.l0
                  have l1 := HP3.out.l1
                  have l2 := HP3.out.l2
                  have l3 := HP3.out.l3
                  clear hV hb64 hh0 hlo hlo2 hx ha1 ha2 ha3 ha4 b1 b2 b3 b4 k0 k1 k2 k3 kf0 kf1 kf2 kf3 hkl
                  go_wp2_with fail
                  refine (KM.out _).mono ?_
                  rintro e w5 ⟨rfl, g5⟩
                  have HP5 := Lib.hid (HP3.out.turned (Tn.gb g5 (S := []) (by simp)) (by simp))
                  have HR5 := Lib.hid (HR3.out.grown g5)
                  have HO5 := Lib.hid (HO3.out.grown g5 (by simp) (by simp) (by simp))
                  have HF5 := Lib.hid (HF3.out.turned (Tn.gb g5 (S := []) (by simp)) (by simp))
                  have HT5 := Lib.hid (HT3.out.trans (Tn.gb g5 (by simp)))
                  have HK5 := Lib.hid (HK3.out.turned (Tn.gb g5 (S := []) (by simp)) (by simp))
                  clear g5 KM l0 l1 l2 l3
                  have hk5 := blk_lt HK5.out
                  have k0 := HK5.out.c0
                  have k1 := HK5.out.c1
                  have k2 := HK5.out.c2
                  have k3 := HK5.out.c3
                  have kf0 := HK5.out.f 0
                  have kf1 := HK5.out.f 1
                  have kf2 := HK5.out.f 2
                  have kf3 := HK5.out.f 3
                  go_wp2_with fail
                  go_meet
                  have t6 := tn_kc w5 kb (.int .u8 (V.r : Nat)) (.int .u8 (V.g : Nat)) (.int .u8 (V.b : Nat)) (.int .u8 (V.a : Nat))
                  case rel => exact .inl ⟨rfl, by rw [HTM.out]; rfl, ⟨⟨_, HP5.out.turned t6 HNK.out.L1⟩, by rw [HNB.out.1, HNB.out.2]; exact rd_own HR5.out t6 HNK.out.c1 HNK.out.l1, ro_t HO5.out t6 HNK.out.r1 HNK.out.b1 HNK.out.g1, HF5.out.turned t6 HKI.out.2, HT5.out.over t6 (by intro x hx; simp at hx; rw [hx]; exact .inl HKB.out), by rw [HV.out]; exact HK5.out.set V, HGQ.out⟩⟩
                · by_cases hlo3 : b < 192
                  · replace hlo : 128 ≤ b := by omega
                    replace hlo2 : b < 192 := hlo3
                    clear h254 h255 hlo3
                    have hx := nb_mi hlo hlo2
                    have hh0 : h6 = 2 := by have := HN6.out; omega
                    have hbd : (n6 : Int) - 32 = (b : Int) - 160 := by have := HN6.out; omega
                    have t0 : ((h6 : Int) == 0) = false := by rw [hh0]; rfl
                    have t1 : ((h6 : Int) == 1) = false := by rw [hh0]; rfl
                    have t2 : ((h6 : Int) == 2) = true := by rw [hh0]; rfl
                    have hdb : -100 ≤ (b : Int) - 160 ∧ (b : Int) - 160 ≤ 100 := by omega
                    obtain ⟨dd, hdd⟩ : ∃ d : Int, (b : Int) - 160 = d := ⟨_, rfl⟩
                    rw [hdd] at hbd hdb
                    have vdd : IntKind.i64.wrap ((n6 : Int) - 32) = dd := by rw [hbd]; exact IntWalk.i64_in _ (by omega)
                    have HNB := Lib.hid (show R1.p + nb (bt s R1.p) = p0 + 2 ∧ R1.N + rdn (bt s R1.p) = R1.N + 2 by rw [HP0.out, HBT.out, hx.1, hx.2.1]; exact ⟨rfl, rfl⟩)
                    have HTM := Lib.hid (show tms b = 1 by rw [hx.2.2])
                    have HXR := Lib.hid (show nb (bt s R1.p) ≠ 1 by rw [HP0.out, HBT.out, hx.1]; decide)
                    have hrr2 : (stp x (R1.N + 1)).r = 0 := HX.out.1
                    by_cases hq : s.size < p0 + 1 + 1 ∨ (stp x (R1.N + 1)).s < (stp x (R1.N + 1)).st + 1
                    · obtain ⟨y, k, jj, hno, KW, KF⟩ := far_n L c l r R1.i n (p0 + 1) dd s R1.last R1.seen C (stp x (R1.N + 1)) w3 HP3.out HR3.out hrr2 hq HB.out.xc HB.out.xl
                      have KW := Lib.hid KW
                      have HKF := Lib.hid KF
                      have HNO := Lib.hid hno
                      unfold cV cQ at KW
                      simp only at KW
                      clear hno hq KF
                      go_wp2_with fail
                      refine KW.out.mono ?_
                      rintro e w5 ⟨rfl, R5, T5⟩
                      have K5 := HK3.out.turned T5 HNK.out.i2
                      have HSN := Lib.hid (show SN W c l r cb g L gw gh n J f p N s x i0 (p0 + 1) y k jj w5 from by
                        have h1 := HF.out.n2
                        refine ⟨⟨_, _, _, C, HP3.out.turned T5 HNE.out.L2⟩, R5, ⟨_, ro_t HO3.out T5 HNE.out.r2 HNE.out.b2 HNE.out.g2⟩, HF3.out.turned T5 HNE.out.i2, HT3.out.trans (T5.mono sub2), ?_, ?_, fun u => HKF.out 5 u, ?_⟩
                        · exact (lm_stp x (R1.N + 1)).trans (nor_lm HNO.out (c := c) (l := l))
                        · rcases HNO.out with ⟨_, _, rfl, _⟩ | ⟨_, rfl, _⟩ <;> rfl
                        · rcases HNO.out with ⟨a1, a2, rfl, rfl, rfl⟩ | ⟨a1, rfl, rfl, rfl⟩
                          · have h2 := HF.out.short (.inr (by rw [HNB.out.1]; exact a1))
                            exact .inl ⟨h2.1, by rw [h2.2.1]; decide, by rw [h2.2.1]; rfl, by rw [h2.2.2], HX.out.1⟩
                          · refine .inr ⟨rfl, ⟨p0 + 1, by have := HPS.out; omega, rfl⟩, by show (3 : Int) ≠ 0; decide, ?_⟩
                            have h2 := h1 (by rw [HP0.out]; exact HPS.out) HXR.out
                            rw [stp_s, stp_t] at a1
                            omega)
                      have hk5 := blk_lt K5
                      have k0 := K5.c0
                      have k1 := K5.c1
                      have k2 := K5.c2
                      have k3 := K5.c3
                      have kf0 := K5.f 0
                      have kf1 := K5.f 1
                      have kf2 := K5.f 2
                      have kf3 := K5.f 3
                      clear R5 T5 KW K5 HNO HKF
                      go_wp2_with fail
                      go_meet
                      have t6 := tn_kc w5 kb (.int .u8 0) (.int .u8 0) (.int .u8 0) (.int .u8 0)
                      case rel => exact .inr ⟨rfl, _, _, _, _, HSN.out.over t6 HNK.out HKI.out.2 HKB.out⟩
                    · have KW := far_y L c l r R1.i n (p0 + 1) dd s R1.last R1.seen C (stp x (R1.N + 1)) w3 HOK.out.last hdb HP3.out HR3.out hrr2 (by omega) (by omega) HB.out.xc HB.out.xl
                      obtain ⟨V, hV⟩ : ∃ V : C4, mv R1.last (dd + ((bt s (p0 + 1) / 16 : Nat) : Int) - 8) dd (dd + ((bt s (p0 + 1) % 16 : Nat) : Int) - 8) = V := ⟨_, rfl⟩
                      rw [hV] at KW
                      rw [stp_stp] at KW
                      unfold cV cQ at KW
                      have KW := Lib.hid KW
                      have HV := Lib.hid (show colQ s R1.p R1.last R1.seen = V by rw [← hV, HP0.out, col_far HBT.out hlo hlo2, hdd])
                      have HGQ := Lib.hid (show Gq s n R1 from ⟨HIN.out, by rw [HP0.out]; exact HPS.out, by rw [HNB.out.1]; omega, by rw [HP0.out, HBT.out, HTM.out]; have := HIN.out; omega⟩)
                      clear hV hq
                      go_wp2_with fail
                      refine KW.out.mono ?_
                      rintro e w5 ⟨rfl, R5, T5⟩
                      have HP5 := Lib.hid (HP3.out.turned T5 HNE.out.L2)
                      have HR5 := Lib.hid R5
                      have HO5 := Lib.hid (ro_t HO3.out T5 HNE.out.r2 HNE.out.b2 HNE.out.g2)
                      have HF5 := Lib.hid (HF3.out.turned T5 HNE.out.i2)
                      have HT5 := Lib.hid (HT3.out.trans (T5.mono sub2))
                      have HK5 := Lib.hid (HK3.out.turned T5 HNK.out.i2)
                      clear R5 T5 KW k0 k1 k2 k3 kf0 kf1 kf2 kf3 hkl
                      have hk5 := blk_lt HK5.out
                      have k0 := HK5.out.c0
                      have k1 := HK5.out.c1
                      have k2 := HK5.out.c2
                      have k3 := HK5.out.c3
                      have kf0 := HK5.out.f 0
                      have kf1 := HK5.out.f 1
                      have kf2 := HK5.out.f 2
                      have kf3 := HK5.out.f 3
                      go_wp2_with fail
                      go_meet
                      have t6 := tn_kc w5 kb (.int .u8 (V.r : Nat)) (.int .u8 (V.g : Nat)) (.int .u8 (V.b : Nat)) (.int .u8 (V.a : Nat))
                      case rel => exact .inl ⟨rfl, by rw [HTM.out]; rfl, ⟨⟨_, HP5.out.turned t6 HNK.out.L1⟩, by rw [HNB.out.1, HNB.out.2]; exact rd_own HR5.out t6 HNK.out.c1 HNK.out.l1, ro_t HO5.out t6 HNK.out.r1 HNK.out.b1 HNK.out.g1, HF5.out.turned t6 HKI.out.2, HT5.out.over t6 (by intro x hx; simp at hx; rw [hx]; exact .inl HKB.out), by rw [HV.out]; exact HK5.out.set V, HGQ.out⟩⟩
                  · replace hlo2 : b < 254 := by omega
                    replace hlo : 192 ≤ b := by omega
                    clear h254 h255 hlo3
                    have hx := nb_hi hlo hlo2
                    have hh0 : h6 = 3 := by have := HN6.out; omega
                    have hbn : b - 191 = n6 + 1 := by have := HN6.out; omega
                    have t0 : ((h6 : Int) == 0) = false := by rw [hh0]; rfl
                    have t1 : ((h6 : Int) == 1) = false := by rw [hh0]; rfl
                    have t2 : ((h6 : Int) == 2) = false := by rw [hh0]; rfl
                    have cn := HP3.out.cn
                    rw [HDD.out] at cn
                    have HNB := Lib.hid (show R1.p + nb (bt s R1.p) = p0 + 1 ∧ R1.N + rdn (bt s R1.p) = R1.N + 1 by rw [HP0.out, HBT.out, hx.1, hx.2.1]; exact ⟨rfl, rfl⟩)
                    have HTM := Lib.hid (show tms b = n6 + 1 by rw [hx.2.2, hbn])
                    have v1 : IntKind.i64.wrap ((n6 : Int) + 1) = (n6 : Int) + 1 := IntWalk.i64_in _ (by have := HN6.out; omega)
                    by_cases hlk : (n6 : Int) < D
                    · have HGQ := Lib.hid (show Gq s n R1 from ⟨HIN.out, by rw [HP0.out]; exact HPS.out, by rw [HNB.out.1]; have := HPS.out; omega, by rw [HP0.out, HBT.out, HTM.out]; have := HIN.out; have := HDD.out; omega⟩)
                      have HV := Lib.hid (show colQ s R1.p R1.last R1.seen = R1.last by rw [HP0.out, col_last HBT.out hlo hlo2])
                      clear hx hh0 hbn k0 k1 k2 k3 kf0 kf1 kf2 kf3
                      go_wp2_with fail
                      go_meet
                      case rel => exact .inl ⟨rfl, by rw [HTM.out]; rfl, ⟨⟨_, HP3.out⟩, by rw [HNB.out.1, HNB.out.2]; exact HR3.out, HO3.out, HF3.out, HT3.out, by rw [HV.out]; exact HK3.out, HGQ.out⟩⟩
                    · have hbad := HF.out.bad (by rw [HP0.out]; exact HPS.out) (by rw [HNB.out.1]; have := HPS.out; omega) (by rw [HP0.out, HBT.out, HTM.out]; have := HDD.out; omega)
                      rw [HP0.out] at hbad
                      have HSN := Lib.hid (show SE W c l r cb g L gw gh n J f p N s x i0 (p0 + 1) (stp x (R1.N + 1)) 2 ((p0 : Nat) : Int) w3 from ⟨HR3.out, ⟨_, HO3.out⟩, HF3.out, HT3.out, lm_stp x _, rfl, .inl ⟨hbad.1, by rw [hbad.2.1]; decide, by rw [hbad.2.1]; rfl, by rw [hbad.2.2], HX.out.1⟩⟩)
                      have KQ := Lib.hid (qfault_calls 2 ((p0 : Nat) : Int) w3)
                      unfold flF at KQ
                      clear hbad hx hh0 hbn k0 k1 k2 k3 kf0 kf1 kf2 kf3
                      go_wp2_with fail
                      refine KQ.out.mono ?_
                      rintro e w8 ⟨rfl, g8⟩
                      have R8 := HSN.out.rd.grown g8
                      have FZ := HSN.out.fl.turned (Tn.gb g8 (S := []) (by simp)) (by simp)
                      have q0 := FZ.c0
                      have q1 := FZ.c1
                      have q2 := FZ.c2
                      have qf0 := FZ.free 0
                      have qf1 := FZ.free 1
                      have qf2 := FZ.free 2
                      have hlz := FZ.lt
                      have HT8 := Lib.hid (HSN.out.tn.trans (Tn.gb g8 (by simp)))
                      have HR8 := Lib.hid R8
                      have HO8 := Lib.hid (HSN.out.ro.elim (fun A h => (⟨A, h.grown g8 (by simp) (by simp) (by simp)⟩ : ∃ A, Ro r l cb g gw gh A w8)))
                      have HFF := Lib.hid (FZ.set 2 5 ((p0 : Nat) : Int))
                      clear R8 g8 FZ
                      go_upto_region 28 with fail
                      have t6 : Tn w8 (((w8.setCell ⟨i0, 0, none⟩ (.int .i64 2)).setCell ⟨i0, 1, none⟩ (.int .i64 5)).setCell ⟨i0, 2, none⟩ (.int .i64 ((p0 : Nat) : Int))) [i0] := (((Tn.refl w8 [i0]).st (by simp)).st (by simp)).st (by simp)
                      have HT9 := Lib.hid t6
                      clear t6 q0 q1 q2 qf0 qf1 qf2 hlz
                      generalize (((w8.setCell ⟨i0, 0, none⟩ (.int .i64 2)).setCell ⟨i0, 1, none⟩ (.int .i64 5)).setCell ⟨i0, 2, none⟩ (.int .i64 ((p0 : Nat) : Int))) = w9 at HFF HT9 ⊢
                      have q0 := HFF.out.c0
                      have q1 := HFF.out.c1
                      have q2 := HFF.out.c2
                      have qf0 := HFF.out.free 0
                      have qf1 := HFF.out.free 1
                      have qf2 := HFF.out.free 2
                      have hlz := HFF.out.lt
                      go_wp2
                      try rw [Exit.noGoto_ret]
                      refine bodyPost_ret (v := flF 5 2 ((p0 : Nat) : Int)) (by simp only [results, Tryz.results49, flF]; go_simp) rfl ?_
                      rw [← HQ.out]
                      have t7 : Tn w9 (((w9.setCell ⟨i0, 0, none⟩ (.int .i64 2)).setCell ⟨i0, 1, none⟩ (.int .i64 5)).setCell ⟨i0, 2, none⟩ (.int .i64 ((p0 : Nat) : Int))) [i0] := (((Tn.refl w9 [i0]).st (by simp)).st (by simp)).st (by simp)
                      have t6 := HT9.out.trans t7
                      obtain ⟨A, hA⟩ := HO8.out
                      refine ⟨_, _, rd_own HR8.out t6 HNE.out.c1 HNE.out.l1, HT8.out.over t6 (ge1 HZ.out), HSN.out.lm, HSN.out.by_, ⟨A, ro_t hA t6 HNE.out.r1 HNE.out.b1 HNE.out.g1⟩, ?_⟩
                      rcases HSN.out.ed with ⟨a1, a2, a3, a4, a5⟩ | ⟨a1, ⟨m, a2, a3⟩, a4, a5⟩
                      · exact .inr (.inl ⟨a1, a2, by rw [a3, a4], a5⟩)
                      · exact .inr (.inr ⟨a5, ⟨m, a2, by rw [a1, a3]⟩, a4⟩)
        case rest =>
          clear k0 k1 k2 k3 kf0 kf1 kf2 kf3 hkl HP3 HR3 HO3 HF3 HT3 HK3
          rcases hcut with ⟨rfl, rfl, hY⟩ | ⟨rfl, q, y, k, jj, hN⟩
          · have HGO := Lib.hid (HF.out.go hY.go)
            have HGQ := Lib.hid hY.go
            have HSP := Lib.hid hY.sp
            have HCN := Lib.hid (fun t => col_next s R1 t)
            have HBD := Lib.hid (fun k j => cf_bd HOK2.out k j)
            have HVO := Lib.hid (col_ok s R1.p HOK.out.last HOK.out.seen)
            rw [HNX.out] at HBD
            clear hY HN6
            have htb : tms b < 1000 := by unfold tms; split <;> omega
            obtain ⟨V, hV⟩ : ∃ V : C4, colQ s R1.p R1.last R1.seen = V := ⟨_, rfl⟩
            obtain ⟨T, hT⟩ : ∃ T : Nat, tms b = T := ⟨_, rfl⟩
            rw [hV] at HSP HCN HVO
            rw [hT] at htb ⊢
            have HTT := Lib.hid (show tms (bt s R1.p) = T by rw [HP0.out, HBT.out]; exact hT)
            have HVV := Lib.hid hV
            clear hV hT e64 w64 b256 d0 hrr cc
            go_wp2_with fail
            go_loopg [114] T (fun q tv w5 => ∃ t : Nat, t ≤ T ∧ q = T - t ∧ tv = .int .i64 t ∧ SP W c l r cb g L gw gh n s x R1 i0 kb V t w5)
            case atStart => exact ⟨0, Nat.zero_le _, rfl, rfl, HSP.out⟩
            case round =>
              clear HSP
              obtain ⟨t, htT, rfl, rfl, I⟩ := hrel
              have HSP := Lib.hid I
              clear I
              by_cases ht : t < T
              · have d0 : decide ((t : Int) < (T : Int)) = true := decide_eq_true (by omega)
                have d1 : (t : Int) < (T : Int) := by omega
                have w1 : IntKind.i64.wrap ((t : Int) + 1) = (t : Int) + 1 := IntWalk.i64_in _ (by omega)
                have hr5 : (stp x (R1.N + rdn (bt s R1.p) + t)).r = 0 := HX.out.1
                have hiN : R1.i + t < n := by have := HGQ.out.t; rw [HTT.out] at this; omega
                have k0 := HSP.out.kc.c0
                have k1 := HSP.out.kc.c1
                have k2 := HSP.out.kc.c2
                have k3 := HSP.out.kc.c3
                obtain ⟨C5, P5⟩ := HSP.out.pb
                have hcc := HCN.out t
                by_cases hst : (stp x (R1.N + rdn (bt s R1.p) + t)).st + 1 ≤ (stp x (R1.N + rdn (bt s R1.p) + t)).s
                · have KP := put_y L c l r cb g (R1.i + t) n (R1.p + nb (bt s R1.p)) gw gh s R1.last V R1.seen C5 (CF (nxt s R1)) _ _ P5 HSP.out.ro HSP.out.rd hr5 hst hiN HX.out.2.1 HX.out.2.2.1 HX.out.2.2.2 (fun j => HBD.out (R1.i + t) j) hcc HB.out.xl HB.out.xg HB.out.xc HB.out.xr HB.out.xb HB.out.fb.nlr.symm HB.out.fb.ncl HB.out.fb.ncg HB.out.fb.nlg
                  unfold cV cQ at KP
                  have KP := Lib.hid KP
                  have HTL := Lib.hid ht
                  clear P5 hcc hst hiN ht
                  go_wp2_with fail
                  refine KP.out.mono ?_
                  rintro e w6 ⟨rfl, P6, O6, R6, T6⟩
                  have HI6 := Lib.hid (HSP.out.next HNE.out.i3 HNK.out.i3 P6 O6 R6 T6)
                  clear P6 O6 R6 T6 KP
                  go_wp2
                  go_roundg (T - (t + 1))
                  case measure => have := HTL.out; omega
                  case rel => exact ⟨t + 1, HTL.out, rfl, by go_num, HI6.out⟩
                · have hst' : (stp x (R1.N + rdn (bt s R1.p) + t)).s < (stp x (R1.N + rdn (bt s R1.p) + t)).st + 1 := by omega
                  have KP := put_n L c l r cb g (R1.i + t) n (R1.p + nb (bt s R1.p)) gw gh s R1.last V R1.seen C5 (CF (nxt s R1)) _ _ P5 HSP.out.ro HSP.out.rd hr5 hst' hiN HX.out.2.1 HX.out.2.2.1 HX.out.2.2.2 (fun j => HBD.out (R1.i + t) j) hcc HB.out.xl HB.out.xg HB.out.xc HB.out.xr HB.out.xb HB.out.fb.nlr.symm HB.out.fb.ncl HB.out.fb.ncg HB.out.fb.nlg
                  unfold cV cQ at KP
                  have KP := Lib.hid KP
                  have HP5 := Lib.hid P5
                  have HNN := Lib.hid (show x.s < x.st + (N : Int) by
                    have h1 := HGO.out.2
                    rw [HTT.out] at h1
                    rw [stp_s, stp_t] at hst'
                    omega)
                  clear P5 hcc hst hst' hiN ht htT
                  go_wp2_with fail
                  refine KP.out.mono ?_
                  rintro e w6 ⟨rfl, O6, R6, T6⟩
                  have cc := (HP5.out.turned T6 (by simp [HB.out.xl, HB.out.xg])).cc
                  have HSN := Lib.hid (show SE W c l r cb g L gw gh n J f p N s x i0 (R1.p + nb (bt s R1.p)) (spent (stp x (R1.N + rdn (bt s R1.p) + t))) 4 ((R1.p + nb (bt s R1.p) : Nat) : Int) w6 from ⟨R6, ⟨_, O6⟩, HSP.out.fl.turned T6 HNE.out.i4, HSP.out.tn.trans (T6.mono sub4), (lm_stp x _).trans (lm_spent _), rfl, .inr ⟨rfl, ⟨_, HGQ.out.nb, rfl⟩, by show (3 : Int) ≠ 0; decide, HNN.out⟩⟩)
                  obtain ⟨m, hm⟩ : ∃ m : Nat, R1.p + nb (bt s R1.p) = m := ⟨_, rfl⟩
                  rw [hm] at HSN
                  have KA := Lib.hid (at_rd c l s _ _ w6 HSN.out.rd)
                  have KQ := Lib.hid (qfault_calls 4 ((m : Nat) : Int) w6)
                  unfold flF at KQ
                  clear hm O6 R6 T6 KP k0 k1 k2 k3 hr5
                  go_wp2_with fail
                  refine KA.out.mono ?_
                  rintro e w' ⟨rfl, rfl⟩
                  go_wp2_with fail
                  refine KQ.out.mono ?_
                  rintro e w8 ⟨rfl, g8⟩
                  have R8 := HSN.out.rd.grown g8
                  have FZ := HSN.out.fl.turned (Tn.gb g8 (S := []) (by simp)) (by simp)
                  have q0 := FZ.c0
                  have q1 := FZ.c1
                  have q2 := FZ.c2
                  have qf0 := FZ.free 0
                  have qf1 := FZ.free 1
                  have qf2 := FZ.free 2
                  have hlz := FZ.lt
                  have HT8 := Lib.hid (HSN.out.tn.trans (Tn.gb g8 (by simp)))
                  have HR8 := Lib.hid R8
                  have HO8 := Lib.hid (HSN.out.ro.elim (fun A h => (⟨A, h.grown g8 (by simp) (by simp) (by simp)⟩ : ∃ A, Ro r l cb g gw gh A w8)))
                  have HFF := Lib.hid (FZ.set 4 5 ((m : Nat) : Int))
                  clear R8 g8 FZ
                  go_upto_region 28 with fail
                  have t6 : Tn w8 (((w8.setCell ⟨i0, 0, none⟩ (.int .i64 4)).setCell ⟨i0, 1, none⟩ (.int .i64 5)).setCell ⟨i0, 2, none⟩ (.int .i64 ((m : Nat) : Int))) [i0] := (((Tn.refl w8 [i0]).st (by simp)).st (by simp)).st (by simp)
                  have HT9 := Lib.hid t6
                  clear t6 q0 q1 q2 qf0 qf1 qf2 hlz
                  generalize (((w8.setCell ⟨i0, 0, none⟩ (.int .i64 4)).setCell ⟨i0, 1, none⟩ (.int .i64 5)).setCell ⟨i0, 2, none⟩ (.int .i64 ((m : Nat) : Int))) = w9 at HFF HT9 ⊢
                  have q0 := HFF.out.c0
                  have q1 := HFF.out.c1
                  have q2 := HFF.out.c2
                  have qf0 := HFF.out.free 0
                  have qf1 := HFF.out.free 1
                  have qf2 := HFF.out.free 2
                  have hlz := HFF.out.lt
                  go_wp2
                  try rw [Exit.noGoto_ret]
                  refine bodyPost_ret (v := flF 5 4 ((m : Nat) : Int)) (by simp only [results, Tryz.results49, flF]; go_simp) rfl ?_
                  rw [← HQ.out]
                  have t7 : Tn w9 (((w9.setCell ⟨i0, 0, none⟩ (.int .i64 4)).setCell ⟨i0, 1, none⟩ (.int .i64 5)).setCell ⟨i0, 2, none⟩ (.int .i64 ((m : Nat) : Int))) [i0] := (((Tn.refl w9 [i0]).st (by simp)).st (by simp)).st (by simp)
                  have t6 := HT9.out.trans t7
                  obtain ⟨A, hA⟩ := HO8.out
                  refine ⟨_, _, rd_own HR8.out t6 HNE.out.c1 HNE.out.l1, HT8.out.over t6 (ge1 HZ.out), HSN.out.lm, HSN.out.by_, ⟨A, ro_t hA t6 HNE.out.r1 HNE.out.b1 HNE.out.g1⟩, ?_⟩
                  rcases HSN.out.ed with ⟨a1, a2, a3, a4, a5⟩ | ⟨a1, ⟨m, a2, a3⟩, a4, a5⟩
                  · exact .inr (.inl ⟨a1, a2, by rw [a3, a4], a5⟩)
                  · exact .inr (.inr ⟨a5, ⟨m, a2, by rw [a1, a3]⟩, a4⟩)
              · have htt : t = T := by omega
                have d0 : decide ((t : Int) < (T : Int)) = false := decide_eq_false (by omega)
                have d1 : ¬ (t : Int) < (T : Int) := by omega
                have HTE := Lib.hid (show tms (bt s R1.p) = t by rw [HTT.out, htt])
                have HMS := Lib.hid (show n + 1 - (sq s (j + 1)).i < n + 1 - R1.i by
                  rw [HNX.out]
                  show n + 1 - (R1.i + tms (bt s R1.p)) < n + 1 - R1.i
                  have h1 := tms_1 (bt s R1.p)
                  have h2 := HIN.out
                  omega)
                obtain ⟨C5, P5⟩ := HSP.out.pb
                have KK := fun (u : World) (h : u.heap[L]? = some (.cells C5 124 (0, 0))) => keep_calls _ C5 L V.r V.g V.b V.a u (by rw [P5.size]; decide) h HVO.out.1 HVO.out.2.1 HVO.out.2.2.1 HVO.out.2.2.2
                unfold cQ at KK
                have KK := Lib.hid KK
                have HP5 := Lib.hid P5
                have hlt := P5.lt
                have HKL := Lib.hid (show kb ∉ [L] from fun h => HNK.out.L1 (by simp at h ⊢; exact h.symm))
                have k0 := HSP.out.kc.c0
                have k1 := HSP.out.kc.c1
                have k2 := HSP.out.kc.c2
                have k3 := HSP.out.kc.c3
                clear P5 ht htT htt
                go_upto_region 27 with fail
                go_region_held3 (fun w' => w'.cell? ⟨kb, 0, none⟩ = some (.int .u8 (V.r : Nat)) ∧ w'.cell? ⟨kb, 1, none⟩ = some (.int .u8 (V.g : Nat)) ∧ w'.cell? ⟨kb, 2, none⟩ = some (.int .u8 (V.b : Nat)) ∧ w'.cell? ⟨kb, 3, none⟩ = some (.int .u8 (V.a : Nat))) (go_keep)
                  (first | (go_at_call 60; (with_reducible refine (KK.out _ (((Tn.gb (gb_drew _ none) (S := []) (by simp)).block L HP5.out.lt (by simp)).trans HP5.out.blk)).mono ?_); rintro e w9 ⟨rfl, hb9, g9⟩; have T9 : Tn wr w9 [L] := (Tn.drew wr _).trans (Tn.gb g9 (by simp)); have K9 := HSP.out.kc.turned T9 HKL.out; have k0 := K9.c0; have k1 := K9.c1; have k2 := K9.c2; have k3 := K9.c3))
                all_goals
                  have HQ9 := Lib.hid (HSP.out.qi HB.out HNE.out.L1 HVV.out HTE.out HP5.out hb9 T9)
                  clear hb9 g9 T9 K9 KK k0 k1 k2 k3
                  go_wp2
                  go_roundg (n + 1 - (sq s (j + 1)).i)
                  case measure => rw [HR1.out]; exact HMS.out
                  case rel => exact ⟨j + 1, HGO.out.1, rfl, by rw [HNX.out]; exact HQ9.out⟩
          · have HSN := Lib.hid hN
            clear hN
            have c26 := HSN.out.cc
            go_wp2_with fail
            refine (HSN.out.kf _ HSN.out.rd).mono ?_
            rintro e w8 ⟨rfl, R8, g8⟩
            have FZ := HSN.out.fl.turned (Tn.gb g8 (S := []) (by simp)) (by simp)
            have q0 := FZ.c0
            have q1 := FZ.c1
            have q2 := FZ.c2
            have qf0 := FZ.free 0
            have qf1 := FZ.free 1
            have qf2 := FZ.free 2
            have hlz := FZ.lt
            have HT8 := Lib.hid (HSN.out.tn.trans (Tn.gb g8 (by simp)))
            have HR8 := Lib.hid R8
            have HO8 := Lib.hid (HSN.out.ro.elim (fun A h => (⟨A, h.grown g8 (by simp) (by simp) (by simp)⟩ : ∃ A, Ro r l cb g gw gh A w8)))
            have HFF := Lib.hid (FZ.set k 5 jj)
            clear R8 g8 c26 FZ
            go_upto_region 28 with fail
            have t6 : Tn w8 (((w8.setCell ⟨i0, 0, none⟩ (.int .i64 k)).setCell ⟨i0, 1, none⟩ (.int .i64 5)).setCell ⟨i0, 2, none⟩ (.int .i64 jj)) [i0] := (((Tn.refl w8 [i0]).st (by simp)).st (by simp)).st (by simp)
            have HT9 := Lib.hid t6
            clear t6 q0 q1 q2 qf0 qf1 qf2 hlz
            generalize (((w8.setCell ⟨i0, 0, none⟩ (.int .i64 k)).setCell ⟨i0, 1, none⟩ (.int .i64 5)).setCell ⟨i0, 2, none⟩ (.int .i64 jj)) = w9 at HFF HT9 ⊢
            have q0 := HFF.out.c0
            have q1 := HFF.out.c1
            have q2 := HFF.out.c2
            have qf0 := HFF.out.free 0
            have qf1 := HFF.out.free 1
            have qf2 := HFF.out.free 2
            have hlz := HFF.out.lt
            go_wp2
            try rw [Exit.noGoto_ret]
            refine bodyPost_ret (v := flF 5 k jj) (by simp only [results, Tryz.results49, flF]; go_simp) rfl ?_
            rw [← HQ.out]
            have t7 : Tn w9 (((w9.setCell ⟨i0, 0, none⟩ (.int .i64 k)).setCell ⟨i0, 1, none⟩ (.int .i64 5)).setCell ⟨i0, 2, none⟩ (.int .i64 jj)) [i0] := (((Tn.refl w9 [i0]).st (by simp)).st (by simp)).st (by simp)
            have t6 := HT9.out.trans t7
            obtain ⟨A, hA⟩ := HO8.out
            refine ⟨_, _, rd_own HR8.out t6 HNE.out.c1 HNE.out.l1, HT8.out.over t6 (ge1 HZ.out), HSN.out.lm, HSN.out.by_, ⟨A, ro_t hA t6 HNE.out.r1 HNE.out.b1 HNE.out.g1⟩, ?_⟩
            rcases HSN.out.ed with ⟨a1, a2, a3, a4, a5⟩ | ⟨a1, ⟨m, a2, a3⟩, a4, a5⟩
            · exact .inr (.inl ⟨a1, a2, by rw [a3, a4], a5⟩)
            · exact .inr (.inr ⟨a5, ⟨m, a2, by rw [a1, a3]⟩, a4⟩)
    · have hin' : R1.i = n := by omega
      have d0 : ¬ (0 : Int) < D := by have := HDD.out; omega
      have hjJ := HEND.out hin'
      have HSQ := Lib.hid (show sq s J = R1 by rw [← hjJ]; exact HR1.out)
      have FZ := HI.out.fl
      have q0 := FZ.c0
      have q1 := FZ.c1
      have q2 := FZ.c2
      have qf0 := FZ.free 0
      have qf1 := FZ.free 1
      have qf2 := FZ.free 2
      have hlz := FZ.lt
      have HIN := Lib.hid hin'
      clear FZ hin hin' hjJ hin0 HF0 hj
      go_upto_region 28 with fail
      go_wp2
      try rw [Exit.noGoto_ret]
      refine bodyPost_ret (v := okT) (by simp only [results, Tryz.results49, okT]; go_simp) rfl ?_
      rw [← HQ.out]
      have t7 : Tn wr (((wr.setCell ⟨i0, 0, none⟩ (.int .i64 0)).setCell ⟨i0, 1, none⟩ (.int .i64 0)).setCell ⟨i0, 2, none⟩ (.int .i64 0)) [i0] := (((Tn.refl wr [i0]).st (by simp)).st (by simp)).st (by simp)
      have O7 := ro_t HI.out.ro t7 HNE.out.r1 HNE.out.b1 HNE.out.g1
      refine ⟨_, _, rd_own HI.out.rd t7 HNE.out.c1 HNE.out.l1, HI.out.tn.over t7 (ge1 HZ.out), lm_stp x R1.N, rfl, ⟨_, O7⟩, .inl ⟨by rw [HSQ.out]; exact HIN.out, rfl, by rw [HSQ.out], by rw [HSQ.out], ?_⟩⟩
      rw [HSQ.out]
      rw [HIN.out] at O7
      exact O7

end Go.Proofs.YtmhghkgcfgacdaaGreat.Qo
