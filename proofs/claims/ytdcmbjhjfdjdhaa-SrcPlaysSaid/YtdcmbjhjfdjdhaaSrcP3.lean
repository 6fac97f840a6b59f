/- Layer 5's law: readings of numbers. -/
import Derived.Test.YtdcmbjhjfdjdhaaSrcP2
namespace Go.Proofs.Ytdcmbjhjfdjdhaa.Sr
open Go.ChangeShapes Go.WideShapes Go.ChangeAt Go.RowKit
open Go.Proofs.Ytdcmbjhjfdjdhaa.Le
set_option linter.unusedVariables false

/-- Source and ledger in memory. -/
structure SL (b l : Nat) (s : ByteArray) (p f t : Nat) (x : St) (w : World) : Prop where
  so : So b l s p f t w
  led : Led l x.ls w
  ok : x.Ok
theorem SL.grown {b l : Nat} {s : ByteArray} {p f t : Nat} {x : St} {w w' : World} (h : SL b l s p f t x w) (g : w.grownBy w' none) : SL b l s p f t x w' :=
  ⟨h.so.grown g (by simp), h.led.grown g (by simp), h.ok⟩
theorem SL.turned {b l : Nat} {s : ByteArray} {p f t : Nat} {x : St} {w w' : World} {S : List Nat} (h : SL b l s p f t x w) (g : Tn w w' S) (h1 : b ∉ S) (h2 : l ∉ S) : SL b l s p f t x w' :=
  ⟨h.so.turned g h1, h.led.turned g h2, h.ok⟩

/-- What is written behind a call into blocks R of one's own leaves source and ledger alone. -/
theorem SL.fin {b l : Nat} {s : ByteArray} {p f t : Nat} {y : St} {w w1 wf : World} (S1 : SL b l s p f t y w1) (G1 : Tn w w1 [b, l]) (R : List Nat) (hR : ∀ x, x ∈ R → w.heap.size ≤ x) (hb : b < w.heap.size) (hl : l < w.heap.size) (TT : Tn w1 wf R) :
    SL b l s p f t y wf ∧ Tn w wf [b, l] :=
  ⟨S1.turned TT (fun h => by have := hR b h; omega) (fun h => by have := hR l h; omega), G1.over TT (fun x hx => .inl (hR x hx))⟩

/-- The document's number, of what was read, is the same. -/
def NumIs (s : ByteArray) (p f t : Nat) (x : St) (n k v : Int) (r : Bool) (p' : Nat) : Prop :=
  ∀ w, Calls Try.prog 55 #[.agg (SAc s p f t x), .int .i64 n, .int .i64 v, .bool r, .int .i64 k] w
    fun e w' => e = .returned (.tuple #[.agg (SAc s p' f t (x.work 1).1), .bool true]) ∧ w.grownBy w' none

theorem both_u8 (b l : Nat) (s : ByteArray) (p f t : Nat) (x : St) (w : World) (h : SL b l s p f t x w) :
    Calls Try.prog 38 #[.pointer (some ⟨b, 0, none⟩)] w
      fun e w' => ∃ (p' : Nat) (v : Int) (r : Bool), e = .returned (.tuple #[.int .i64 v, .bool r]) ∧ SL b l s p' f t (x.work 1).1 w' ∧ Tn w w' [b, l] ∧ NumIs s p f t x 1 1 v r p' := by
  by_cases hr : rdB x p t 1 = true
  · refine (u8_yes b l s p f t x w h.so h.led h.ok hr).mono ?_
    rintro e w' ⟨he, ⟨S, L⟩, g⟩
    exact ⟨_, _, _, he, ⟨S, L, h.ok.work _⟩, g, fun w => number_lo s p f t 1 x 1 w h.ok h.so.pt h.so.ts h.so.big hr (by decide) (by decide)⟩
  · refine (u8_no b l s p f t x w h.so h.led h.ok (by simpa using hr)).mono ?_
    rintro e w' ⟨he, ⟨S, L⟩, g⟩
    exact ⟨_, _, _, he, ⟨S, L, h.ok.work _⟩, Tn.gb g (by simp), fun w => number_no s p f t x 1 1 w h.ok h.so.pt h.so.ts h.so.big (by simpa using hr)⟩

set_option maxRecDepth 100000 in
set_option maxHeartbeats 2000000 in
theorem reads_u8 (b l : Nat) (s : ByteArray) (p f t : Nat) (x : St) (w : World) (h : SL b l s p f t x w) :
    Calls Try.prog 40 #[.pointer (some ⟨b, 0, none⟩), .agg (SAc s p f t x), .int .i64 1] w
      fun e w' => ∃ p' : Nat, e = .returned (.tuple #[.agg (SAc s p' f t (x.work 1).1), .bool true]) ∧ SL b l s p' f t (x.work 1).1 w' ∧ Tn w w' [b, l] := by
  have K := fun w h => both_u8 b l s p f t x w h
  obtain ⟨y, hy⟩ : ∃ y, (x.work 1).1 = y := ⟨_, rfl⟩
  rw [hy] at K ⊢
  have K := Lib.hid K
  have HY := Lib.hid hy
  have hb := h.so.lt
  have hl := h.led.lt
  have H := Lib.hid h
  clear h hy
  unfold SAc
  go_enter Try.func40, Try.ntmps40
  go_wp2_with fail
  refine (K.out _ ((H.out.grown (World.grownBy_alloc _ _ none)).grown (World.grownBy_alloc _ _ none))).mono ?_
  rintro e w1 ⟨p', v, r, rfl, S1, g1, N1⟩
  have bX := tn2a g1 (by simp; omega)
  have bR := tn2b g1 (by simp; omega)
  have G1 := Lib.hid ((Tn.refl w [b, l]).al.al.trans g1)
  have S1' := Lib.hid S1
  have hb1 := S1.so.lt
  have hl1 := S1.led.lt
  unfold NumIs SAc at N1
  rw [HY.out] at N1
  have N1' := Lib.hid N1
  clear N1 K S1 g1 H
  have x0 := blk_cell bX 0
  have x1 := blk_cell bX 1
  have x2 := blk_cell bX 2
  have x3 := blk_cell bX 3
  have x4 := blk_cell bX 4
  have x5 := blk_cell bX 5
  have x6 := blk_cell bX 6
  have x7 := blk_cell bX 7
  have x8 := blk_cell bX 8
  have x9 := blk_cell bX 9
  have x10 := blk_cell bX 10
  have x11 := blk_cell bX 11
  have x12 := blk_cell bX 12
  simp only [List.getElem?_toArray, List.getElem?_cons_succ, List.getElem?_cons_zero] at x0 x1 x2 x3 x4 x5 x6 x7 x8 x9 x10 x11 x12
  go_wp2_with fail
  refine (N1'.out _).mono ?_
  rintro e w2 ⟨rfl, g2⟩
  have bR2 := old0 g2 bR (blk_lt bR) (by simp)
  have zR := blk_lt bR2
  have G2 := Lib.hid (Tn.gb g2 (S := [w.heap.size + 1]) (by simp))
  clear bX bR g2 x0 x1 x2 x3 x4 x5 x6 x7 x8 x9 x10 x11 x12
  have q0 := blk_cell bR2 0
  have q1 := blk_cell bR2 1
  have q2 := blk_cell bR2 2
  have q3 := blk_cell bR2 3
  have q4 := blk_cell bR2 4
  have q5 := blk_cell bR2 5
  have q6 := blk_cell bR2 6
  have q7 := blk_cell bR2 7
  have q8 := blk_cell bR2 8
  have q9 := blk_cell bR2 9
  have q10 := blk_cell bR2 10
  have q11 := blk_cell bR2 11
  have q12 := blk_cell bR2 12
  simp only [List.getElem?_toArray, List.getElem?_cons_succ, List.getElem?_cons_zero] at q0 q1 q2 q3 q4 q5 q6 q7 q8 q9 q10 q11 q12
  have qz0 := blk_free bR2 0
  have qz1 := blk_free bR2 1
  have qz2 := blk_free bR2 2
  have qz3 := blk_free bR2 3
  have qz4 := blk_free bR2 4
  have qz5 := blk_free bR2 5
  have qz6 := blk_free bR2 6
  have qz7 := blk_free bR2 7
  have qz8 := blk_free bR2 8
  have qz9 := blk_free bR2 9
  have qz10 := blk_free bR2 10
  have qz11 := blk_free bR2 11
  have qz12 := blk_free bR2 12
  clear bR2
  go_wp2_with fail
  try go_region
  all_goals
    refine bodyPost_ret (v := .tuple #[.agg #[.string s, .int .i64 f, .int .i64 t, .int .i64 p', .int .i64 y.w, .int .i64 y.h, .int .i64 y.b, .int .i64 y.s, .int .i64 y.by_, .int .i64 y.pk, .int .i64 y.st, .int .i64 y.r, .int .i64 y.a], .bool true]) (by rw [results_cell_tmp (fn := Try.f40) rfl]; go_simp) rfl ?_
    refine ⟨p', rfl, S1'.out.fin G1.out [w.heap.size + 1] (by simp) hb hl ?_⟩
    repeat' (first | with_reducible exact G2.out | with_reducible refine Tn.al ?_ | with_reducible refine Tn.st ?_ (by simp) | with_reducible refine Tn.dr ?_ | with_reducible refine Tn.dn ?_)

theorem both_le16 (b l : Nat) (s : ByteArray) (p f t : Nat) (x : St) (w : World) (h : SL b l s p f t x w) :
    Calls Try.prog 26 #[.pointer (some ⟨b, 0, none⟩)] w
      fun e w' => ∃ (p' : Nat) (v : Int) (r : Bool), e = .returned (.tuple #[.int .i64 v, .bool r]) ∧ SL b l s p' f t (x.work 1).1 w' ∧ Tn w w' [b, l] ∧ NumIs s p f t x 2 2 v r p' := by
  by_cases hr : rdB x p t 2 = true
  · refine (le16_yes b l s p f t x w h.so h.led h.ok hr).mono ?_
    rintro e w' ⟨he, ⟨S, L⟩, g⟩
    exact ⟨_, _, _, he, ⟨S, L, h.ok.work _⟩, g, fun w => number_lo s p f t 2 x 2 w h.ok h.so.pt h.so.ts h.so.big hr (by decide) (by decide)⟩
  · refine (le16_no b l s p f t x w h.so h.led h.ok (by simpa using hr)).mono ?_
    rintro e w' ⟨he, ⟨S, L⟩, g⟩
    exact ⟨_, _, _, he, ⟨S, L, h.ok.work _⟩, Tn.gb g (by simp), fun w => number_no s p f t x 2 2 w h.ok h.so.pt h.so.ts h.so.big (by simpa using hr)⟩

set_option maxRecDepth 100000 in
set_option maxHeartbeats 2000000 in
theorem reads_le16 (b l : Nat) (s : ByteArray) (p f t : Nat) (x : St) (w : World) (h : SL b l s p f t x w) :
    Calls Try.prog 40 #[.pointer (some ⟨b, 0, none⟩), .agg (SAc s p f t x), .int .i64 2] w
      fun e w' => ∃ p' : Nat, e = .returned (.tuple #[.agg (SAc s p' f t (x.work 1).1), .bool true]) ∧ SL b l s p' f t (x.work 1).1 w' ∧ Tn w w' [b, l] := by
  have K := fun w h => both_le16 b l s p f t x w h
  obtain ⟨y, hy⟩ : ∃ y, (x.work 1).1 = y := ⟨_, rfl⟩
  rw [hy] at K ⊢
  have K := Lib.hid K
  have HY := Lib.hid hy
  have hb := h.so.lt
  have hl := h.led.lt
  have H := Lib.hid h
  clear h hy
  unfold SAc
  go_enter Try.func40, Try.ntmps40
  go_wp2_with fail
  refine (K.out _ ((H.out.grown (World.grownBy_alloc _ _ none)).grown (World.grownBy_alloc _ _ none))).mono ?_
  rintro e w1 ⟨p', v, r, rfl, S1, g1, N1⟩
  have bX := tn2a g1 (by simp; omega)
  have bR := tn2b g1 (by simp; omega)
  have G1 := Lib.hid ((Tn.refl w [b, l]).al.al.trans g1)
  have S1' := Lib.hid S1
  have hb1 := S1.so.lt
  have hl1 := S1.led.lt
  unfold NumIs SAc at N1
  rw [HY.out] at N1
  have N1' := Lib.hid N1
  clear N1 K S1 g1 H
  have x0 := blk_cell bX 0
  have x1 := blk_cell bX 1
  have x2 := blk_cell bX 2
  have x3 := blk_cell bX 3
  have x4 := blk_cell bX 4
  have x5 := blk_cell bX 5
  have x6 := blk_cell bX 6
  have x7 := blk_cell bX 7
  have x8 := blk_cell bX 8
  have x9 := blk_cell bX 9
  have x10 := blk_cell bX 10
  have x11 := blk_cell bX 11
  have x12 := blk_cell bX 12
  simp only [List.getElem?_toArray, List.getElem?_cons_succ, List.getElem?_cons_zero] at x0 x1 x2 x3 x4 x5 x6 x7 x8 x9 x10 x11 x12
  go_wp2_with fail
  refine (N1'.out _).mono ?_
  rintro e w2 ⟨rfl, g2⟩
  have bR2 := old0 g2 bR (blk_lt bR) (by simp)
  have zR := blk_lt bR2
  have G2 := Lib.hid (Tn.gb g2 (S := [w.heap.size + 1]) (by simp))
  clear bX bR g2 x0 x1 x2 x3 x4 x5 x6 x7 x8 x9 x10 x11 x12
  have q0 := blk_cell bR2 0
  have q1 := blk_cell bR2 1
  have q2 := blk_cell bR2 2
  have q3 := blk_cell bR2 3
  have q4 := blk_cell bR2 4
  have q5 := blk_cell bR2 5
  have q6 := blk_cell bR2 6
  have q7 := blk_cell bR2 7
  have q8 := blk_cell bR2 8
  have q9 := blk_cell bR2 9
  have q10 := blk_cell bR2 10
  have q11 := blk_cell bR2 11
  have q12 := blk_cell bR2 12
  simp only [List.getElem?_toArray, List.getElem?_cons_succ, List.getElem?_cons_zero] at q0 q1 q2 q3 q4 q5 q6 q7 q8 q9 q10 q11 q12
  have qz0 := blk_free bR2 0
  have qz1 := blk_free bR2 1
  have qz2 := blk_free bR2 2
  have qz3 := blk_free bR2 3
  have qz4 := blk_free bR2 4
  have qz5 := blk_free bR2 5
  have qz6 := blk_free bR2 6
  have qz7 := blk_free bR2 7
  have qz8 := blk_free bR2 8
  have qz9 := blk_free bR2 9
  have qz10 := blk_free bR2 10
  have qz11 := blk_free bR2 11
  have qz12 := blk_free bR2 12
  clear bR2
  go_wp2_with fail
  try go_region
  all_goals
    refine bodyPost_ret (v := .tuple #[.agg #[.string s, .int .i64 f, .int .i64 t, .int .i64 p', .int .i64 y.w, .int .i64 y.h, .int .i64 y.b, .int .i64 y.s, .int .i64 y.by_, .int .i64 y.pk, .int .i64 y.st, .int .i64 y.r, .int .i64 y.a], .bool true]) (by rw [results_cell_tmp (fn := Try.f40) rfl]; go_simp) rfl ?_
    refine ⟨p', rfl, S1'.out.fin G1.out [w.heap.size + 1] (by simp) hb hl ?_⟩
    repeat' (first | with_reducible exact G2.out | with_reducible refine Tn.al ?_ | with_reducible refine Tn.st ?_ (by simp) | with_reducible refine Tn.dr ?_ | with_reducible refine Tn.dn ?_)

theorem both_le32 (b l : Nat) (s : ByteArray) (p f t : Nat) (x : St) (w : World) (h : SL b l s p f t x w) :
    Calls Try.prog 22 #[.pointer (some ⟨b, 0, none⟩)] w
      fun e w' => ∃ (p' : Nat) (v : Int) (r : Bool), e = .returned (.tuple #[.int .i64 v, .bool r]) ∧ SL b l s p' f t (x.work 1).1 w' ∧ Tn w w' [b, l] ∧ NumIs s p f t x 4 3 v r p' := by
  by_cases hr : rdB x p t 4 = true
  · refine (le32_yes b l s p f t x w h.so h.led h.ok hr).mono ?_
    rintro e w' ⟨he, ⟨S, L⟩, g⟩
    exact ⟨_, _, _, he, ⟨S, L, h.ok.work _⟩, g, fun w => number_lo s p f t 4 x 3 w h.ok h.so.pt h.so.ts h.so.big hr (by decide) (by decide)⟩
  · refine (le32_no b l s p f t x w h.so h.led h.ok (by simpa using hr)).mono ?_
    rintro e w' ⟨he, ⟨S, L⟩, g⟩
    exact ⟨_, _, _, he, ⟨S, L, h.ok.work _⟩, Tn.gb g (by simp), fun w => number_no s p f t x 4 3 w h.ok h.so.pt h.so.ts h.so.big (by simpa using hr)⟩

set_option maxRecDepth 100000 in
set_option maxHeartbeats 2000000 in
theorem reads_le32 (b l : Nat) (s : ByteArray) (p f t : Nat) (x : St) (w : World) (h : SL b l s p f t x w) :
    Calls Try.prog 40 #[.pointer (some ⟨b, 0, none⟩), .agg (SAc s p f t x), .int .i64 3] w
      fun e w' => ∃ p' : Nat, e = .returned (.tuple #[.agg (SAc s p' f t (x.work 1).1), .bool true]) ∧ SL b l s p' f t (x.work 1).1 w' ∧ Tn w w' [b, l] := by
  have K := fun w h => both_le32 b l s p f t x w h
  obtain ⟨y, hy⟩ : ∃ y, (x.work 1).1 = y := ⟨_, rfl⟩
  rw [hy] at K ⊢
  have K := Lib.hid K
  have HY := Lib.hid hy
  have hb := h.so.lt
  have hl := h.led.lt
  have H := Lib.hid h
  clear h hy
  unfold SAc
  go_enter Try.func40, Try.ntmps40
  go_wp2_with fail
  refine (K.out _ ((H.out.grown (World.grownBy_alloc _ _ none)).grown (World.grownBy_alloc _ _ none))).mono ?_
  rintro e w1 ⟨p', v, r, rfl, S1, g1, N1⟩
  have bX := tn2a g1 (by simp; omega)
  have bR := tn2b g1 (by simp; omega)
  have G1 := Lib.hid ((Tn.refl w [b, l]).al.al.trans g1)
  have S1' := Lib.hid S1
  have hb1 := S1.so.lt
  have hl1 := S1.led.lt
  unfold NumIs SAc at N1
  rw [HY.out] at N1
  have N1' := Lib.hid N1
  clear N1 K S1 g1 H
  have x0 := blk_cell bX 0
  have x1 := blk_cell bX 1
  have x2 := blk_cell bX 2
  have x3 := blk_cell bX 3
  have x4 := blk_cell bX 4
  have x5 := blk_cell bX 5
  have x6 := blk_cell bX 6
  have x7 := blk_cell bX 7
  have x8 := blk_cell bX 8
  have x9 := blk_cell bX 9
  have x10 := blk_cell bX 10
  have x11 := blk_cell bX 11
  have x12 := blk_cell bX 12
  simp only [List.getElem?_toArray, List.getElem?_cons_succ, List.getElem?_cons_zero] at x0 x1 x2 x3 x4 x5 x6 x7 x8 x9 x10 x11 x12
  go_wp2_with fail
  refine (N1'.out _).mono ?_
  rintro e w2 ⟨rfl, g2⟩
  have bR2 := old0 g2 bR (blk_lt bR) (by simp)
  have zR := blk_lt bR2
  have G2 := Lib.hid (Tn.gb g2 (S := [w.heap.size + 1]) (by simp))
  clear bX bR g2 x0 x1 x2 x3 x4 x5 x6 x7 x8 x9 x10 x11 x12
  have q0 := blk_cell bR2 0
  have q1 := blk_cell bR2 1
  have q2 := blk_cell bR2 2
  have q3 := blk_cell bR2 3
  have q4 := blk_cell bR2 4
  have q5 := blk_cell bR2 5
  have q6 := blk_cell bR2 6
  have q7 := blk_cell bR2 7
  have q8 := blk_cell bR2 8
  have q9 := blk_cell bR2 9
  have q10 := blk_cell bR2 10
  have q11 := blk_cell bR2 11
  have q12 := blk_cell bR2 12
  simp only [List.getElem?_toArray, List.getElem?_cons_succ, List.getElem?_cons_zero] at q0 q1 q2 q3 q4 q5 q6 q7 q8 q9 q10 q11 q12
  have qz0 := blk_free bR2 0
  have qz1 := blk_free bR2 1
  have qz2 := blk_free bR2 2
  have qz3 := blk_free bR2 3
  have qz4 := blk_free bR2 4
  have qz5 := blk_free bR2 5
  have qz6 := blk_free bR2 6
  have qz7 := blk_free bR2 7
  have qz8 := blk_free bR2 8
  have qz9 := blk_free bR2 9
  have qz10 := blk_free bR2 10
  have qz11 := blk_free bR2 11
  have qz12 := blk_free bR2 12
  clear bR2
  go_wp2_with fail
  try go_region
  all_goals
    refine bodyPost_ret (v := .tuple #[.agg #[.string s, .int .i64 f, .int .i64 t, .int .i64 p', .int .i64 y.w, .int .i64 y.h, .int .i64 y.b, .int .i64 y.s, .int .i64 y.by_, .int .i64 y.pk, .int .i64 y.st, .int .i64 y.r, .int .i64 y.a], .bool true]) (by rw [results_cell_tmp (fn := Try.f40) rfl]; go_simp) rfl ?_
    refine ⟨p', rfl, S1'.out.fin G1.out [w.heap.size + 1] (by simp) hb hl ?_⟩
    repeat' (first | with_reducible exact G2.out | with_reducible refine Tn.al ?_ | with_reducible refine Tn.st ?_ (by simp) | with_reducible refine Tn.dr ?_ | with_reducible refine Tn.dn ?_)

theorem both_int32 (b l : Nat) (s : ByteArray) (p f t : Nat) (x : St) (w : World) (h : SL b l s p f t x w) :
    Calls Try.prog 25 #[.pointer (some ⟨b, 0, none⟩)] w
      fun e w' => ∃ (p' : Nat) (v : Int) (r : Bool), e = .returned (.tuple #[.int .i64 v, .bool r]) ∧ SL b l s p' f t (x.work 1).1 w' ∧ Tn w w' [b, l] ∧ NumIs s p f t x 4 4 v r p' := by
  by_cases hr : rdB x p t 4 = true
  · refine (int32_yes b l s p f t x w h.so h.led h.ok hr).mono ?_
    rintro e w' ⟨he, ⟨S, L⟩, g⟩
    exact ⟨_, _, _, he, ⟨S, L, h.ok.work _⟩, g, fun w => number_four s p f t 4 x 4 w h.ok h.so.pt h.so.ts h.so.big hr (by decide) (by decide)⟩
  · refine (int32_no b l s p f t x w h.so h.led h.ok (by simpa using hr)).mono ?_
    rintro e w' ⟨he, ⟨S, L⟩, g⟩
    exact ⟨_, _, _, he, ⟨S, L, h.ok.work _⟩, Tn.gb g (by simp), fun w => number_no s p f t x 4 4 w h.ok h.so.pt h.so.ts h.so.big (by simpa using hr)⟩

set_option maxRecDepth 100000 in
set_option maxHeartbeats 2000000 in
theorem reads_int32 (b l : Nat) (s : ByteArray) (p f t : Nat) (x : St) (w : World) (h : SL b l s p f t x w) :
    Calls Try.prog 40 #[.pointer (some ⟨b, 0, none⟩), .agg (SAc s p f t x), .int .i64 4] w
      fun e w' => ∃ p' : Nat, e = .returned (.tuple #[.agg (SAc s p' f t (x.work 1).1), .bool true]) ∧ SL b l s p' f t (x.work 1).1 w' ∧ Tn w w' [b, l] := by
  have K := fun w h => both_int32 b l s p f t x w h
  obtain ⟨y, hy⟩ : ∃ y, (x.work 1).1 = y := ⟨_, rfl⟩
  rw [hy] at K ⊢
  have K := Lib.hid K
  have HY := Lib.hid hy
  have hb := h.so.lt
  have hl := h.led.lt
  have H := Lib.hid h
  clear h hy
  unfold SAc
  go_enter Try.func40, Try.ntmps40
  go_wp2_with fail
  refine (K.out _ ((H.out.grown (World.grownBy_alloc _ _ none)).grown (World.grownBy_alloc _ _ none))).mono ?_
  rintro e w1 ⟨p', v, r, rfl, S1, g1, N1⟩
  have bX := tn2a g1 (by simp; omega)
  have bR := tn2b g1 (by simp; omega)
  have G1 := Lib.hid ((Tn.refl w [b, l]).al.al.trans g1)
  have S1' := Lib.hid S1
  have hb1 := S1.so.lt
  have hl1 := S1.led.lt
  unfold NumIs SAc at N1
  rw [HY.out] at N1
  have N1' := Lib.hid N1
  clear N1 K S1 g1 H
  have x0 := blk_cell bX 0
  have x1 := blk_cell bX 1
  have x2 := blk_cell bX 2
  have x3 := blk_cell bX 3
  have x4 := blk_cell bX 4
  have x5 := blk_cell bX 5
  have x6 := blk_cell bX 6
  have x7 := blk_cell bX 7
  have x8 := blk_cell bX 8
  have x9 := blk_cell bX 9
  have x10 := blk_cell bX 10
  have x11 := blk_cell bX 11
  have x12 := blk_cell bX 12
  simp only [List.getElem?_toArray, List.getElem?_cons_succ, List.getElem?_cons_zero] at x0 x1 x2 x3 x4 x5 x6 x7 x8 x9 x10 x11 x12
  go_wp2_with fail
  refine (N1'.out _).mono ?_
  rintro e w2 ⟨rfl, g2⟩
  have bR2 := old0 g2 bR (blk_lt bR) (by simp)
  have zR := blk_lt bR2
  have G2 := Lib.hid (Tn.gb g2 (S := [w.heap.size + 1]) (by simp))
  clear bX bR g2 x0 x1 x2 x3 x4 x5 x6 x7 x8 x9 x10 x11 x12
  have q0 := blk_cell bR2 0
  have q1 := blk_cell bR2 1
  have q2 := blk_cell bR2 2
  have q3 := blk_cell bR2 3
  have q4 := blk_cell bR2 4
  have q5 := blk_cell bR2 5
  have q6 := blk_cell bR2 6
  have q7 := blk_cell bR2 7
  have q8 := blk_cell bR2 8
  have q9 := blk_cell bR2 9
  have q10 := blk_cell bR2 10
  have q11 := blk_cell bR2 11
  have q12 := blk_cell bR2 12
  simp only [List.getElem?_toArray, List.getElem?_cons_succ, List.getElem?_cons_zero] at q0 q1 q2 q3 q4 q5 q6 q7 q8 q9 q10 q11 q12
  have qz0 := blk_free bR2 0
  have qz1 := blk_free bR2 1
  have qz2 := blk_free bR2 2
  have qz3 := blk_free bR2 3
  have qz4 := blk_free bR2 4
  have qz5 := blk_free bR2 5
  have qz6 := blk_free bR2 6
  have qz7 := blk_free bR2 7
  have qz8 := blk_free bR2 8
  have qz9 := blk_free bR2 9
  have qz10 := blk_free bR2 10
  have qz11 := blk_free bR2 11
  have qz12 := blk_free bR2 12
  clear bR2
  go_wp2_with fail
  try go_region
  all_goals
    refine bodyPost_ret (v := .tuple #[.agg #[.string s, .int .i64 f, .int .i64 t, .int .i64 p', .int .i64 y.w, .int .i64 y.h, .int .i64 y.b, .int .i64 y.s, .int .i64 y.by_, .int .i64 y.pk, .int .i64 y.st, .int .i64 y.r, .int .i64 y.a], .bool true]) (by rw [results_cell_tmp (fn := Try.f40) rfl]; go_simp) rfl ?_
    refine ⟨p', rfl, S1'.out.fin G1.out [w.heap.size + 1] (by simp) hb hl ?_⟩
    repeat' (first | with_reducible exact G2.out | with_reducible refine Tn.al ?_ | with_reducible refine Tn.st ?_ (by simp) | with_reducible refine Tn.dr ?_ | with_reducible refine Tn.dn ?_)

theorem both_be16 (b l : Nat) (s : ByteArray) (p f t : Nat) (x : St) (w : World) (h : SL b l s p f t x w) :
    Calls Try.prog 27 #[.pointer (some ⟨b, 0, none⟩)] w
      fun e w' => ∃ (p' : Nat) (v : Int) (r : Bool), e = .returned (.tuple #[.int .i64 v, .bool r]) ∧ SL b l s p' f t (x.work 1).1 w' ∧ Tn w w' [b, l] ∧ NumIs s p f t x 2 5 v r p' := by
  by_cases hr : rdB x p t 2 = true
  · refine (be16_yes b l s p f t x w h.so h.led h.ok hr).mono ?_
    rintro e w' ⟨he, ⟨S, L⟩, g⟩
    exact ⟨_, _, _, he, ⟨S, L, h.ok.work _⟩, g, fun w => number_hi s p f t 2 x 5 w h.ok h.so.pt h.so.ts h.so.big hr (by decide) (by decide)⟩
  · refine (be16_no b l s p f t x w h.so h.led h.ok (by simpa using hr)).mono ?_
    rintro e w' ⟨he, ⟨S, L⟩, g⟩
    exact ⟨_, _, _, he, ⟨S, L, h.ok.work _⟩, Tn.gb g (by simp), fun w => number_no s p f t x 2 5 w h.ok h.so.pt h.so.ts h.so.big (by simpa using hr)⟩

set_option maxRecDepth 100000 in
set_option maxHeartbeats 2000000 in
theorem reads_be16 (b l : Nat) (s : ByteArray) (p f t : Nat) (x : St) (w : World) (h : SL b l s p f t x w) :
    Calls Try.prog 40 #[.pointer (some ⟨b, 0, none⟩), .agg (SAc s p f t x), .int .i64 5] w
      fun e w' => ∃ p' : Nat, e = .returned (.tuple #[.agg (SAc s p' f t (x.work 1).1), .bool true]) ∧ SL b l s p' f t (x.work 1).1 w' ∧ Tn w w' [b, l] := by
  have K := fun w h => both_be16 b l s p f t x w h
  obtain ⟨y, hy⟩ : ∃ y, (x.work 1).1 = y := ⟨_, rfl⟩
  rw [hy] at K ⊢
  have K := Lib.hid K
  have HY := Lib.hid hy
  have hb := h.so.lt
  have hl := h.led.lt
  have H := Lib.hid h
  clear h hy
  unfold SAc
  go_enter Try.func40, Try.ntmps40
  go_wp2_with fail
  refine (K.out _ ((H.out.grown (World.grownBy_alloc _ _ none)).grown (World.grownBy_alloc _ _ none))).mono ?_
  rintro e w1 ⟨p', v, r, rfl, S1, g1, N1⟩
  have bX := tn2a g1 (by simp; omega)
  have bR := tn2b g1 (by simp; omega)
  have G1 := Lib.hid ((Tn.refl w [b, l]).al.al.trans g1)
  have S1' := Lib.hid S1
  have hb1 := S1.so.lt
  have hl1 := S1.led.lt
  unfold NumIs SAc at N1
  rw [HY.out] at N1
  have N1' := Lib.hid N1
  clear N1 K S1 g1 H
  have x0 := blk_cell bX 0
  have x1 := blk_cell bX 1
  have x2 := blk_cell bX 2
  have x3 := blk_cell bX 3
  have x4 := blk_cell bX 4
  have x5 := blk_cell bX 5
  have x6 := blk_cell bX 6
  have x7 := blk_cell bX 7
  have x8 := blk_cell bX 8
  have x9 := blk_cell bX 9
  have x10 := blk_cell bX 10
  have x11 := blk_cell bX 11
  have x12 := blk_cell bX 12
  simp only [List.getElem?_toArray, List.getElem?_cons_succ, List.getElem?_cons_zero] at x0 x1 x2 x3 x4 x5 x6 x7 x8 x9 x10 x11 x12
  go_wp2_with fail
  refine (N1'.out _).mono ?_
  rintro e w2 ⟨rfl, g2⟩
  have bR2 := old0 g2 bR (blk_lt bR) (by simp)
  have zR := blk_lt bR2
  have G2 := Lib.hid (Tn.gb g2 (S := [w.heap.size + 1]) (by simp))
  clear bX bR g2 x0 x1 x2 x3 x4 x5 x6 x7 x8 x9 x10 x11 x12
  have q0 := blk_cell bR2 0
  have q1 := blk_cell bR2 1
  have q2 := blk_cell bR2 2
  have q3 := blk_cell bR2 3
  have q4 := blk_cell bR2 4
  have q5 := blk_cell bR2 5
  have q6 := blk_cell bR2 6
  have q7 := blk_cell bR2 7
  have q8 := blk_cell bR2 8
  have q9 := blk_cell bR2 9
  have q10 := blk_cell bR2 10
  have q11 := blk_cell bR2 11
  have q12 := blk_cell bR2 12
  simp only [List.getElem?_toArray, List.getElem?_cons_succ, List.getElem?_cons_zero] at q0 q1 q2 q3 q4 q5 q6 q7 q8 q9 q10 q11 q12
  have qz0 := blk_free bR2 0
  have qz1 := blk_free bR2 1
  have qz2 := blk_free bR2 2
  have qz3 := blk_free bR2 3
  have qz4 := blk_free bR2 4
  have qz5 := blk_free bR2 5
  have qz6 := blk_free bR2 6
  have qz7 := blk_free bR2 7
  have qz8 := blk_free bR2 8
  have qz9 := blk_free bR2 9
  have qz10 := blk_free bR2 10
  have qz11 := blk_free bR2 11
  have qz12 := blk_free bR2 12
  clear bR2
  go_wp2_with fail
  try go_region
  all_goals
    refine bodyPost_ret (v := .tuple #[.agg #[.string s, .int .i64 f, .int .i64 t, .int .i64 p', .int .i64 y.w, .int .i64 y.h, .int .i64 y.b, .int .i64 y.s, .int .i64 y.by_, .int .i64 y.pk, .int .i64 y.st, .int .i64 y.r, .int .i64 y.a], .bool true]) (by rw [results_cell_tmp (fn := Try.f40) rfl]; go_simp) rfl ?_
    refine ⟨p', rfl, S1'.out.fin G1.out [w.heap.size + 1] (by simp) hb hl ?_⟩
    repeat' (first | with_reducible exact G2.out | with_reducible refine Tn.al ?_ | with_reducible refine Tn.st ?_ (by simp) | with_reducible refine Tn.dr ?_ | with_reducible refine Tn.dn ?_)

theorem both_be32 (b l : Nat) (s : ByteArray) (p f t : Nat) (x : St) (w : World) (h : SL b l s p f t x w) :
    Calls Try.prog 24 #[.pointer (some ⟨b, 0, none⟩)] w
      fun e w' => ∃ (p' : Nat) (v : Int) (r : Bool), e = .returned (.tuple #[.int .i64 v, .bool r]) ∧ SL b l s p' f t (x.work 1).1 w' ∧ Tn w w' [b, l] ∧ NumIs s p f t x 4 6 v r p' := by
  by_cases hr : rdB x p t 4 = true
  · refine (be32_yes b l s p f t x w h.so h.led h.ok hr).mono ?_
    rintro e w' ⟨he, ⟨S, L⟩, g⟩
    exact ⟨_, _, _, he, ⟨S, L, h.ok.work _⟩, g, fun w => number_hi s p f t 4 x 6 w h.ok h.so.pt h.so.ts h.so.big hr (by decide) (by decide)⟩
  · refine (be32_no b l s p f t x w h.so h.led h.ok (by simpa using hr)).mono ?_
    rintro e w' ⟨he, ⟨S, L⟩, g⟩
    exact ⟨_, _, _, he, ⟨S, L, h.ok.work _⟩, Tn.gb g (by simp), fun w => number_no s p f t x 4 6 w h.ok h.so.pt h.so.ts h.so.big (by simpa using hr)⟩

set_option maxRecDepth 100000 in
set_option maxHeartbeats 2000000 in
theorem reads_be32 (b l : Nat) (s : ByteArray) (p f t : Nat) (x : St) (w : World) (h : SL b l s p f t x w) :
    Calls Try.prog 40 #[.pointer (some ⟨b, 0, none⟩), .agg (SAc s p f t x), .int .i64 6] w
      fun e w' => ∃ p' : Nat, e = .returned (.tuple #[.agg (SAc s p' f t (x.work 1).1), .bool true]) ∧ SL b l s p' f t (x.work 1).1 w' ∧ Tn w w' [b, l] := by
  have K := fun w h => both_be32 b l s p f t x w h
  obtain ⟨y, hy⟩ : ∃ y, (x.work 1).1 = y := ⟨_, rfl⟩
  rw [hy] at K ⊢
  have K := Lib.hid K
  have HY := Lib.hid hy
  have hb := h.so.lt
  have hl := h.led.lt
  have H := Lib.hid h
  clear h hy
  unfold SAc
  go_enter Try.func40, Try.ntmps40
  go_wp2_with fail
  refine (K.out _ ((H.out.grown (World.grownBy_alloc _ _ none)).grown (World.grownBy_alloc _ _ none))).mono ?_
  rintro e w1 ⟨p', v, r, rfl, S1, g1, N1⟩
  have bX := tn2a g1 (by simp; omega)
  have bR := tn2b g1 (by simp; omega)
  have G1 := Lib.hid ((Tn.refl w [b, l]).al.al.trans g1)
  have S1' := Lib.hid S1
  have hb1 := S1.so.lt
  have hl1 := S1.led.lt
  unfold NumIs SAc at N1
  rw [HY.out] at N1
  have N1' := Lib.hid N1
  clear N1 K S1 g1 H
  have x0 := blk_cell bX 0
  have x1 := blk_cell bX 1
  have x2 := blk_cell bX 2
  have x3 := blk_cell bX 3
  have x4 := blk_cell bX 4
  have x5 := blk_cell bX 5
  have x6 := blk_cell bX 6
  have x7 := blk_cell bX 7
  have x8 := blk_cell bX 8
  have x9 := blk_cell bX 9
  have x10 := blk_cell bX 10
  have x11 := blk_cell bX 11
  have x12 := blk_cell bX 12
  simp only [List.getElem?_toArray, List.getElem?_cons_succ, List.getElem?_cons_zero] at x0 x1 x2 x3 x4 x5 x6 x7 x8 x9 x10 x11 x12
  go_wp2_with fail
  refine (N1'.out _).mono ?_
  rintro e w2 ⟨rfl, g2⟩
  have bR2 := old0 g2 bR (blk_lt bR) (by simp)
  have zR := blk_lt bR2
  have G2 := Lib.hid (Tn.gb g2 (S := [w.heap.size + 1]) (by simp))
  clear bX bR g2 x0 x1 x2 x3 x4 x5 x6 x7 x8 x9 x10 x11 x12
  have q0 := blk_cell bR2 0
  have q1 := blk_cell bR2 1
  have q2 := blk_cell bR2 2
  have q3 := blk_cell bR2 3
  have q4 := blk_cell bR2 4
  have q5 := blk_cell bR2 5
  have q6 := blk_cell bR2 6
  have q7 := blk_cell bR2 7
  have q8 := blk_cell bR2 8
  have q9 := blk_cell bR2 9
  have q10 := blk_cell bR2 10
  have q11 := blk_cell bR2 11
  have q12 := blk_cell bR2 12
  simp only [List.getElem?_toArray, List.getElem?_cons_succ, List.getElem?_cons_zero] at q0 q1 q2 q3 q4 q5 q6 q7 q8 q9 q10 q11 q12
  have qz0 := blk_free bR2 0
  have qz1 := blk_free bR2 1
  have qz2 := blk_free bR2 2
  have qz3 := blk_free bR2 3
  have qz4 := blk_free bR2 4
  have qz5 := blk_free bR2 5
  have qz6 := blk_free bR2 6
  have qz7 := blk_free bR2 7
  have qz8 := blk_free bR2 8
  have qz9 := blk_free bR2 9
  have qz10 := blk_free bR2 10
  have qz11 := blk_free bR2 11
  have qz12 := blk_free bR2 12
  clear bR2
  go_wp2_with fail
  try go_region
  all_goals
    refine bodyPost_ret (v := .tuple #[.agg #[.string s, .int .i64 f, .int .i64 t, .int .i64 p', .int .i64 y.w, .int .i64 y.h, .int .i64 y.b, .int .i64 y.s, .int .i64 y.by_, .int .i64 y.pk, .int .i64 y.st, .int .i64 y.r, .int .i64 y.a], .bool true]) (by rw [results_cell_tmp (fn := Try.f40) rfl]; go_simp) rfl ?_
    refine ⟨p', rfl, S1'.out.fin G1.out [w.heap.size + 1] (by simp) hb hl ?_⟩
    repeat' (first | with_reducible exact G2.out | with_reducible refine Tn.al ?_ | with_reducible refine Tn.st ?_ (by simp) | with_reducible refine Tn.dr ?_ | with_reducible refine Tn.dn ?_)

end Go.Proofs.Ytdcmbjhjfdjdhaa.Sr
