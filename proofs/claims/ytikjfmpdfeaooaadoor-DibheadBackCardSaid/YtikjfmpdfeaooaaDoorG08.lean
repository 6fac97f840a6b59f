/- Texts of one kind, one behind the other: Dh5. -/
import Derived.BigRegion
import Derived.Test.YtikjfmpdfeaooaaDoorG07
/- Layer 20: a head's bytes, walked (written by wip/gen/dh5.py). -/
namespace Go.Proofs.YtikjfmpdfeaooaaDoor.Dh
open Go.ChangeShapes Go.WideShapes Go.ChangeAt Go.RowKit
open Go.Proofs.YtikjfmpdfeaooaaDoor.Le Go.Proofs.YtikjfmpdfeaooaaDoor.Sr
set_option linter.unusedVariables false

theorem tn_own1 {a b : World} {S : List Nat} {k i : Nat} {v : Value} (h : Tn a b S) (hk : a.heap.size ≤ k) : Tn a (b.setCell ⟨k, i, none⟩ v) S :=
  h.over (Tn.set b k i v (List.mem_singleton.2 rfl)) (fun x hx => .inl (by rw [List.mem_singleton] at hx; omega))
theorem so_oth {b l : Nat} {s : ByteArray} {p f t : Nat} {w : World} {k i : Nat} {v : Value} (h : So b l s p f t w) (hb : b ≠ k) : So b l s p f t (w.setCell ⟨k, i, none⟩ v) := ⟨blk_other h.blk hb, h.bl, h.fp, h.pt, h.ts, h.big⟩
/-- A fault's value; a source over a text, with its ledger; three blocks: the reader, the fault that is told. -/
def flV (k fm a : Int) : Value := .agg #[.int .i64 k, .int .i64 fm, .int .i64 a]
structure SL (b l : Nat) (s : ByteArray) (p f t : Nat) (x : St) (w : World) : Prop where
  so : So b l s p f t w
  led : Led l x.ls w
theorem SL.turned {b l : Nat} {s : ByteArray} {p f t : Nat} {x : St} {w w' : World} {S : List Nat} (h : SL b l s p f t x w) (k : Tn w w' S) (h1 : b ∉ S) (h2 : l ∉ S) : SL b l s p f t x w' := ⟨h.so.turned k h1, h.led.turned k h2⟩
theorem SL.grown {b l : Nat} {s : ByteArray} {p f t : Nat} {x : St} {w w' : World} (h : SL b l s p f t x w) (k : w.grownBy w' none) : SL b l s p f t x w' := ⟨h.so.grown k (by simp), h.led.grown k (by simp)⟩
theorem SL.st {b l : Nat} {s : ByteArray} {p f t : Nat} {x : St} {w : World} {k i : Nat} {v : Value} (h : SL b l s p f t x w) (h1 : b ≠ k) (h2 : l ≠ k) : SL b l s p f t x (w.setCell ⟨k, i, none⟩ v) := ⟨so_oth h.so h1, h.led.oth h2⟩

theorem rfault_calls (b : Nat) (fm k a : Int) (p0 : Nat) (W : World) (h : -9223372036854775808 ≤ (p0 : Int) + a) (h2 : (p0 : Int) + a ≤ 9223372036854775807) :
    Calls Tryd.prog 24 #[.agg #[.pointer (some ⟨b, 0, none⟩), .int .i64 fm, .int .i64 (p0 : Nat)], .int .i64 k, .int .i64 a] W fun e w' => e = .returned (flV k fm ((p0 : Int) + a)) ∧ W.grownBy w' none := by
  have hw : IntKind.i64.wrap ((p0 : Int) + a) = (p0 : Int) + a := IntWalk.i64_in _ (by omega)
  unfold flV
  obtain ⟨q, hq⟩ : ∃ q, (p0 : Int) + a = q := ⟨_, rfl⟩
  rw [hq] at hw ⊢
  clear h h2
  go_enter Tryd.func24, Tryd.ntmps24
  go_wp2
  refine bodyPost_ret (v := .agg #[.int .i64 k, .int .i64 fm, .int .i64 q]) (by simp only [results, Tryd.results24]; go_simp) rfl ⟨rfl, ?_⟩
  first | exact gb_refl _ _ | exact World.grownBy_alloc _ _ _ | exact gb_trans (World.grownBy_alloc _ _ _) (World.grownBy_alloc _ _ _) | exact gb_own (gb_own (gb_own (gb_trans (World.grownBy_alloc _ _ _) (World.grownBy_alloc _ _ _)) (by simp) (gb_set _ _ _ _)) (by simp) (gb_set _ _ _ _)) (by simp) (gb_set _ _ _ _)

/-- The reader's block, the block of the fault that is told; what else has turned. -/
structure HI (W : World) (b l : Nat) (fm : Int) (p0 : Nat) (w : World) : Prop where
  r : w.heap[W.heap.size]? = some (.cells #[.pointer (some ⟨b, 0, none⟩), .int .i64 fm, .int .i64 (p0 : Nat)] 58 (0, 0))
  f : w.heap[W.heap.size + 1]? = some (.cells #[.int .i64 0, .int .i64 0, .int .i64 0] 33 (0, 0))
  t : Tn W w [b, l]
theorem HI.new {W : World} {b l : Nat} {fm : Int} {p0 : Nat} : HI W b l fm p0 ((W.alloc (.cells #[.pointer (some ⟨b, 0, none⟩), .int .i64 fm, .int .i64 (p0 : Nat)] 58)).alloc (.cells #[.int .i64 0, .int .i64 0, .int .i64 0] 33)) :=
  ⟨blk_al blk_at _, by rw [← size_alloc W (.cells #[.pointer (some ⟨b, 0, none⟩), .int .i64 fm, .int .i64 (p0 : Nat)] 58)]; exact blk_at, Tn.gb (gb_trans (World.grownBy_alloc _ _ none) (World.grownBy_alloc _ _ none)) (by simp)⟩
theorem HI.turned {W w w' : World} {b l : Nat} {fm : Int} {p0 : Nat} (h : HI W b l fm p0 w) (hb : b < W.heap.size) (hl : l < W.heap.size) (t : Tn w w' [b, l]) : HI W b l fm p0 w' :=
  ⟨(t.block _ (blk_lt h.r) (by simp; omega)).trans h.r, (t.block _ (blk_lt h.f) (by simp; omega)).trans h.f, h.t.trans t⟩
theorem HI.gb {W w w' : World} {b l : Nat} {fm : Int} {p0 : Nat} (h : HI W b l fm p0 w) (hb : b < W.heap.size) (hl : l < W.heap.size) (g : w.grownBy w' none) : HI W b l fm p0 w' := h.turned hb hl (Tn.gb g (by simp))

set_option maxRecDepth 100000 in
set_option maxHeartbeats 4000000 in
theorem head_no1 (b l : Nat) (s : ByteArray) (p f t : Nat) (fm : Int) (x : St) (W : World) (h : SL b l s p f t x W) (ok : x.Ok) (rd : rdB x p t 4 = false) (k0 a0 : Int) (hf : (if (x.work 1).1.r = 0 then Value.agg #[.int .i64 1, .int .i64 fm, .int .i64 t] else .agg #[.int .i64 4, .int .i64 fm, .int .i64 p]) = flV k0 fm a0) :
    Calls Tryd.prog 21 #[.agg #[.pointer (some ⟨b, 0, none⟩), .int .i64 fm, .int .i64 p]] W
      fun e w' => e = .returned (.tuple #[.string ⟨#[]⟩, flV k0 fm a0]) ∧ SL b l s p f t (x.work 1).1 w' ∧ Tn W w' [b, l] := by
  have hblt := h.so.lt
  have hllt := h.led.lt
  have hbl := h.so.bl
  have hpt := h.so.pt
  have hts := h.so.ts
  have hbig := h.so.big
  have KT := Lib.hid (show ∀ u, SL b l s p f t x u → Calls Tryd.prog 42 #[.pointer (some ⟨b, 0, none⟩), .int .i64 4] u fun e w' => e = .returned (.tuple #[.string ⟨#[]⟩, .bool false]) ∧ SL b l s p f t (x.work 1).1 w' ∧ Tn u w' [b, l] from fun u hu => (take_no b l s _ f t _ _ u hu.so hu.led ok rd).mono (fun e w' ⟨he, ⟨h1, h2⟩, g⟩ => ⟨he, ⟨h1, h2⟩, Tn.gb g (by simp)⟩))
  have KF := Lib.hid (show ∀ u, SL b l s p f t (x.work 1).1 u → Calls Tryd.prog 43 #[.pointer (some ⟨b, 0, none⟩), .int .i64 fm] u fun e w' => e = .returned (flV k0 fm a0) ∧ SL b l s p f t (x.work 1).1 w' ∧ Tn u w' [b, l] from fun u hu => (fault_calls b l s _ f t _ fm u hu.so hu.led).mono (fun e w' ⟨he, g⟩ => ⟨by rw [he]; exact congrArg Ending.returned hf, hu.grown g, Tn.gb g (by simp)⟩))
  clear hf rd
  unfold flV at KF ⊢
  have HS := Lib.hid (fun u (g : W.grownBy u none) => h.grown g)
  clear h ok hpt hts hbig
  go_enter Tryd.func21, Tryd.ntmps21
  go_upto_region 1 with fail
  have I0 : HI W b l fm p _ := HI.new
  have HS0 := Lib.hid (HS.out _ (gb_trans (World.grownBy_alloc W (.cells #[.pointer (some ⟨b, 0, none⟩), .int .i64 fm, .int .i64 p] 58) none) (World.grownBy_alloc (W.alloc (.cells #[.pointer (some ⟨b, 0, none⟩), .int .i64 fm, .int .i64 p] 58)) (.cells #[.int .i64 0, .int .i64 0, .int .i64 0] 33) none)))
  generalize ((W.alloc (.cells #[.pointer (some ⟨b, 0, none⟩), .int .i64 fm, .int .i64 p] 58)).alloc (.cells #[.int .i64 0, .int .i64 0, .int .i64 0] 33)) = w0 at I0 HS0 ⊢
  clear HS
  have c0 := blk_cell I0.r 0
  have c1 := blk_cell I0.r 1
  have c2 := blk_cell I0.r 2
  have d0 := blk_cell I0.f 0
  have d1 := blk_cell I0.f 1
  have d2 := blk_cell I0.f 2
  have e0 := blk_free I0.f 0
  have e1 := blk_free I0.f 1
  have e2 := blk_free I0.f 2
  have l0 := blk_lt I0.r
  have l1 := blk_lt I0.f
  simp only [List.getElem?_toArray, List.getElem?_cons_succ, List.getElem?_cons_zero] at c0 c1 c2 d0 d1 d2
  have HI0 := Lib.hid I0
  clear I0
  go_wp2_with fail
  refine (KT.out _ HS0.out).mono ?_
  rintro e w_I1 ⟨rfl, S9, t9⟩
  have I1 := HI0.out.turned hblt hllt t9
  have HS1 := Lib.hid S9
  clear S9 t9 HI0
  clear c0 c1 c2 d0 d1 d2 e0 e1 e2 l0 l1
  have c0 := blk_cell I1.r 0
  have c1 := blk_cell I1.r 1
  have c2 := blk_cell I1.r 2
  have d0 := blk_cell I1.f 0
  have d1 := blk_cell I1.f 1
  have d2 := blk_cell I1.f 2
  have e0 := blk_free I1.f 0
  have e1 := blk_free I1.f 1
  have e2 := blk_free I1.f 2
  have l0 := blk_lt I1.r
  have l1 := blk_lt I1.f
  simp only [List.getElem?_toArray, List.getElem?_cons_succ, List.getElem?_cons_zero] at c0 c1 c2 d0 d1 d2
  have HI1 := Lib.hid I1
  clear I1
  go_wp2_with fail
  refine (KF.out _ HS1.out).mono ?_
  rintro e w_I2 ⟨rfl, S9, t9⟩
  have I2 := HI1.out.turned hblt hllt t9
  have HS2 := Lib.hid S9
  clear S9 t9 HI1
  clear c0 c1 c2 d0 d1 d2 e0 e1 e2 l0 l1
  have c0 := blk_cell I2.r 0
  have c1 := blk_cell I2.r 1
  have c2 := blk_cell I2.r 2
  have d0 := blk_cell I2.f 0
  have d1 := blk_cell I2.f 1
  have d2 := blk_cell I2.f 2
  have e0 := blk_free I2.f 0
  have e1 := blk_free I2.f 1
  have e2 := blk_free I2.f 2
  have l0 := blk_lt I2.r
  have l1 := blk_lt I2.f
  simp only [List.getElem?_toArray, List.getElem?_cons_succ, List.getElem?_cons_zero] at c0 c1 c2 d0 d1 d2
  have HI2 := Lib.hid I2
  clear I2
  go_wp2
  refine bodyPost_ret (v := .tuple #[.string ⟨#[]⟩, .agg #[.int .i64 k0, .int .i64 fm, .int .i64 a0]]) (by simp only [results, Tryd.results21]; go_simp) rfl ⟨rfl, ?_, ?_⟩
  · exact ((HS2.out.st (by omega) (by omega)).st (by omega) (by omega)).st (by omega) (by omega)
  · exact tn_own1 (tn_own1 (tn_own1 HI2.out.t (by omega)) (by omega)) (by omega)

set_option maxRecDepth 100000 in
set_option maxHeartbeats 4000000 in
theorem head_other (b l : Nat) (s : ByteArray) (p f t : Nat) (fm : Int) (x : St) (W : World) (h : SL b l s p f t x W) (ok : x.Ok) (rd : rdB x p t 4 = true) (n : Nat) (hn4 : w4 s p = n) (ho : otH n = true) :
    Calls Tryd.prog 21 #[.agg #[.pointer (some ⟨b, 0, none⟩), .int .i64 fm, .int .i64 p]] W
      fun e w' => e = .returned (.tuple #[.string ⟨#[]⟩, flV 3 fm p]) ∧ SL b l s (p + 4) f t (x.work 1).1 w' ∧ Tn W w' [b, l] := by
  have hblt := h.so.lt
  have hllt := h.led.lt
  have hbl := h.so.bl
  have hpt := h.so.pt
  have hts := h.so.ts
  have hbig := h.so.big
  have hrd := (rd_of rd).2.2
  have KT := Lib.hid (show ∀ u, SL b l s p f t x u → Calls Tryd.prog 42 #[.pointer (some ⟨b, 0, none⟩), .int .i64 4] u fun e w' => e = .returned (.tuple #[.string (s.extract p (p + 4)), .bool true]) ∧ SL b l s (p + 4) f t (x.work 1).1 w' ∧ Tn u w' [b, l] from fun u hu => (take_yes b l s _ f t _ _ u hu.so hu.led ok rd).mono (fun e w' ⟨he, ⟨h1, h2⟩, g⟩ => ⟨he, ⟨h1, h2⟩, g⟩))
  have hn := bn_lt s p
  have K4 := fun u => n32_calls (s.extract p (p + 4)) 0 u (by rw [ByteArray.size_extract]; omega) (by rw [ByteArray.size_extract]; omega)
  rw [w4_ext s p (p + 4) 0 (by omega) (by omega), Nat.add_zero] at K4
  have K4 := Lib.hid (show ∀ u, Calls Tryd.prog 44 #[.string (s.extract p (p + 4)), .int .i64 0, .int .i64 4] u fun e w' => e = .returned (.int .i64 (w4 s p : Nat)) ∧ u = w' from K4)
  obtain ⟨z4, hz4⟩ : ∃ z, s.extract p (p + 4) = z := ⟨_, rfl⟩
  rw [hz4] at KT K4
  rw [hn4] at K4
  have KF := Lib.hid (show ∀ u, Calls Tryd.prog 24 #[.agg #[.pointer (some ⟨b, 0, none⟩), .int .i64 fm, .int .i64 p], .int .i64 3, .int .i64 0] u fun e w' => e = .returned (flV 3 fm p) ∧ u.grownBy w' none from fun u => (rfault_calls b fm 3 0 p u (by omega) (by omega)).mono (fun e w' ⟨he, g⟩ => ⟨by rw [he]; simp, g⟩))
  have KO := fun u => isother_calls (n : Int) u
  rw [ho] at KO
  have KO := Lib.hid KO
  clear ho rd hn4 hz4 hrd hn
  unfold flV at KF ⊢
  have HS := Lib.hid (fun u (g : W.grownBy u none) => h.grown g)
  clear h ok hpt hts hbig
  go_enter Tryd.func21, Tryd.ntmps21
  go_upto_region 1 with fail
  have I0 : HI W b l fm p _ := HI.new
  have HS0 := Lib.hid (HS.out _ (gb_trans (World.grownBy_alloc W (.cells #[.pointer (some ⟨b, 0, none⟩), .int .i64 fm, .int .i64 p] 58) none) (World.grownBy_alloc (W.alloc (.cells #[.pointer (some ⟨b, 0, none⟩), .int .i64 fm, .int .i64 p] 58)) (.cells #[.int .i64 0, .int .i64 0, .int .i64 0] 33) none)))
  generalize ((W.alloc (.cells #[.pointer (some ⟨b, 0, none⟩), .int .i64 fm, .int .i64 p] 58)).alloc (.cells #[.int .i64 0, .int .i64 0, .int .i64 0] 33)) = w0 at I0 HS0 ⊢
  clear HS
  have c0 := blk_cell I0.r 0
  have c1 := blk_cell I0.r 1
  have c2 := blk_cell I0.r 2
  have d0 := blk_cell I0.f 0
  have d1 := blk_cell I0.f 1
  have d2 := blk_cell I0.f 2
  have e0 := blk_free I0.f 0
  have e1 := blk_free I0.f 1
  have e2 := blk_free I0.f 2
  have l0 := blk_lt I0.r
  have l1 := blk_lt I0.f
  simp only [List.getElem?_toArray, List.getElem?_cons_succ, List.getElem?_cons_zero] at c0 c1 c2 d0 d1 d2
  have HI0 := Lib.hid I0
  clear I0
  go_wp2_with fail
  refine (KT.out _ HS0.out).mono ?_
  rintro e w_I1 ⟨rfl, S9, t9⟩
  have I1 := HI0.out.turned hblt hllt t9
  have HS1 := Lib.hid S9
  clear S9 t9 HI0
  clear c0 c1 c2 d0 d1 d2 e0 e1 e2 l0 l1
  have c0 := blk_cell I1.r 0
  have c1 := blk_cell I1.r 1
  have c2 := blk_cell I1.r 2
  have d0 := blk_cell I1.f 0
  have d1 := blk_cell I1.f 1
  have d2 := blk_cell I1.f 2
  have e0 := blk_free I1.f 0
  have e1 := blk_free I1.f 1
  have e2 := blk_free I1.f 2
  have l0 := blk_lt I1.r
  have l1 := blk_lt I1.f
  simp only [List.getElem?_toArray, List.getElem?_cons_succ, List.getElem?_cons_zero] at c0 c1 c2 d0 d1 d2
  have HI1 := Lib.hid I1
  clear I1
  go_wp2_with fail
  refine (K4.out _).mono ?_
  rintro e w' ⟨rfl, rfl⟩
  go_wp2_with fail
  refine (KO.out _).mono ?_
  rintro e w' ⟨rfl, rfl⟩
  go_wp2_with fail
  refine (KF.out _).mono ?_
  rintro e w_I2 ⟨rfl, g9⟩
  have I2 := HI1.out.gb hblt hllt g9
  have HS2 := Lib.hid (HS1.out.grown g9)
  clear g9 HI1
  clear c0 c1 c2 d0 d1 d2 e0 e1 e2 l0 l1
  have c0 := blk_cell I2.r 0
  have c1 := blk_cell I2.r 1
  have c2 := blk_cell I2.r 2
  have d0 := blk_cell I2.f 0
  have d1 := blk_cell I2.f 1
  have d2 := blk_cell I2.f 2
  have e0 := blk_free I2.f 0
  have e1 := blk_free I2.f 1
  have e2 := blk_free I2.f 2
  have l0 := blk_lt I2.r
  have l1 := blk_lt I2.f
  simp only [List.getElem?_toArray, List.getElem?_cons_succ, List.getElem?_cons_zero] at c0 c1 c2 d0 d1 d2
  have HI2 := Lib.hid I2
  clear I2
  go_wp2
  refine bodyPost_ret (v := .tuple #[.string ⟨#[]⟩, .agg #[.int .i64 3, .int .i64 fm, .int .i64 p]]) (by simp only [results, Tryd.results21]; go_simp) rfl ⟨rfl, ?_, ?_⟩
  · exact ((HS2.out.st (by omega) (by omega)).st (by omega) (by omega)).st (by omega) (by omega)
  · exact tn_own1 (tn_own1 (tn_own1 HI2.out.t (by omega)) (by omega)) (by omega)

set_option maxRecDepth 100000 in
set_option maxHeartbeats 4000000 in
theorem head_bad (b l : Nat) (s : ByteArray) (p f t : Nat) (fm : Int) (x : St) (W : World) (h : SL b l s p f t x W) (ok : x.Ok) (rd : rdB x p t 4 = true) (n : Nat) (hn4 : w4 s p = n) (ho : otH n = false) (hr : rdH n = false) :
    Calls Tryd.prog 21 #[.agg #[.pointer (some ⟨b, 0, none⟩), .int .i64 fm, .int .i64 p]] W
      fun e w' => e = .returned (.tuple #[.string ⟨#[]⟩, flV 2 fm p]) ∧ SL b l s (p + 4) f t (x.work 1).1 w' ∧ Tn W w' [b, l] := by
  have hblt := h.so.lt
  have hllt := h.led.lt
  have hbl := h.so.bl
  have hpt := h.so.pt
  have hts := h.so.ts
  have hbig := h.so.big
  have hrd := (rd_of rd).2.2
  have KT := Lib.hid (show ∀ u, SL b l s p f t x u → Calls Tryd.prog 42 #[.pointer (some ⟨b, 0, none⟩), .int .i64 4] u fun e w' => e = .returned (.tuple #[.string (s.extract p (p + 4)), .bool true]) ∧ SL b l s (p + 4) f t (x.work 1).1 w' ∧ Tn u w' [b, l] from fun u hu => (take_yes b l s _ f t _ _ u hu.so hu.led ok rd).mono (fun e w' ⟨he, ⟨h1, h2⟩, g⟩ => ⟨he, ⟨h1, h2⟩, g⟩))
  have hn := bn_lt s p
  have K4 := fun u => n32_calls (s.extract p (p + 4)) 0 u (by rw [ByteArray.size_extract]; omega) (by rw [ByteArray.size_extract]; omega)
  rw [w4_ext s p (p + 4) 0 (by omega) (by omega), Nat.add_zero] at K4
  have K4 := Lib.hid (show ∀ u, Calls Tryd.prog 44 #[.string (s.extract p (p + 4)), .int .i64 0, .int .i64 4] u fun e w' => e = .returned (.int .i64 (w4 s p : Nat)) ∧ u = w' from K4)
  obtain ⟨z4, hz4⟩ : ∃ z, s.extract p (p + 4) = z := ⟨_, rfl⟩
  rw [hz4] at KT K4
  rw [hn4] at K4
  have KF := Lib.hid (show ∀ u, Calls Tryd.prog 24 #[.agg #[.pointer (some ⟨b, 0, none⟩), .int .i64 fm, .int .i64 p], .int .i64 2, .int .i64 0] u fun e w' => e = .returned (flV 2 fm p) ∧ u.grownBy w' none from fun u => (rfault_calls b fm 2 0 p u (by omega) (by omega)).mono (fun e w' ⟨he, g⟩ => ⟨by rw [he]; simp, g⟩))
  have KO := fun u => isother_calls (n : Int) u
  rw [ho] at KO
  have KO := Lib.hid KO
  have KR := fun u => isread_calls (n : Int) u
  rw [hr] at KR
  have KR := Lib.hid KR
  clear ho hr rd hn4 hz4 hrd hn
  unfold flV at KF ⊢
  have HS := Lib.hid (fun u (g : W.grownBy u none) => h.grown g)
  clear h ok hpt hts hbig
  go_enter Tryd.func21, Tryd.ntmps21
  go_upto_region 1 with fail
  have I0 : HI W b l fm p _ := HI.new
  have HS0 := Lib.hid (HS.out _ (gb_trans (World.grownBy_alloc W (.cells #[.pointer (some ⟨b, 0, none⟩), .int .i64 fm, .int .i64 p] 58) none) (World.grownBy_alloc (W.alloc (.cells #[.pointer (some ⟨b, 0, none⟩), .int .i64 fm, .int .i64 p] 58)) (.cells #[.int .i64 0, .int .i64 0, .int .i64 0] 33) none)))
  generalize ((W.alloc (.cells #[.pointer (some ⟨b, 0, none⟩), .int .i64 fm, .int .i64 p] 58)).alloc (.cells #[.int .i64 0, .int .i64 0, .int .i64 0] 33)) = w0 at I0 HS0 ⊢
  clear HS
  have c0 := blk_cell I0.r 0
  have c1 := blk_cell I0.r 1
  have c2 := blk_cell I0.r 2
  have d0 := blk_cell I0.f 0
  have d1 := blk_cell I0.f 1
  have d2 := blk_cell I0.f 2
  have e0 := blk_free I0.f 0
  have e1 := blk_free I0.f 1
  have e2 := blk_free I0.f 2
  have l0 := blk_lt I0.r
  have l1 := blk_lt I0.f
  simp only [List.getElem?_toArray, List.getElem?_cons_succ, List.getElem?_cons_zero] at c0 c1 c2 d0 d1 d2
  have HI0 := Lib.hid I0
  clear I0
  go_wp2_with fail
  refine (KT.out _ HS0.out).mono ?_
  rintro e w_I1 ⟨rfl, S9, t9⟩
  have I1 := HI0.out.turned hblt hllt t9
  have HS1 := Lib.hid S9
  clear S9 t9 HI0
  clear c0 c1 c2 d0 d1 d2 e0 e1 e2 l0 l1
  have c0 := blk_cell I1.r 0
  have c1 := blk_cell I1.r 1
  have c2 := blk_cell I1.r 2
  have d0 := blk_cell I1.f 0
  have d1 := blk_cell I1.f 1
  have d2 := blk_cell I1.f 2
  have e0 := blk_free I1.f 0
  have e1 := blk_free I1.f 1
  have e2 := blk_free I1.f 2
  have l0 := blk_lt I1.r
  have l1 := blk_lt I1.f
  simp only [List.getElem?_toArray, List.getElem?_cons_succ, List.getElem?_cons_zero] at c0 c1 c2 d0 d1 d2
  have HI1 := Lib.hid I1
  clear I1
  go_wp2_with fail
  refine (K4.out _).mono ?_
  rintro e w' ⟨rfl, rfl⟩
  go_wp2_with fail
  refine (KO.out _).mono ?_
  rintro e w' ⟨rfl, rfl⟩
  go_wp2_with fail
  refine (KR.out _).mono ?_
  rintro e w' ⟨rfl, rfl⟩
  go_wp2_with fail
  refine (KF.out _).mono ?_
  rintro e w_I2 ⟨rfl, g9⟩
  have I2 := HI1.out.gb hblt hllt g9
  have HS2 := Lib.hid (HS1.out.grown g9)
  clear g9 HI1
  clear c0 c1 c2 d0 d1 d2 e0 e1 e2 l0 l1
  have c0 := blk_cell I2.r 0
  have c1 := blk_cell I2.r 1
  have c2 := blk_cell I2.r 2
  have d0 := blk_cell I2.f 0
  have d1 := blk_cell I2.f 1
  have d2 := blk_cell I2.f 2
  have e0 := blk_free I2.f 0
  have e1 := blk_free I2.f 1
  have e2 := blk_free I2.f 2
  have l0 := blk_lt I2.r
  have l1 := blk_lt I2.f
  simp only [List.getElem?_toArray, List.getElem?_cons_succ, List.getElem?_cons_zero] at c0 c1 c2 d0 d1 d2
  have HI2 := Lib.hid I2
  clear I2
  go_wp2
  refine bodyPost_ret (v := .tuple #[.string ⟨#[]⟩, .agg #[.int .i64 2, .int .i64 fm, .int .i64 p]]) (by simp only [results, Tryd.results21]; go_simp) rfl ⟨rfl, ?_, ?_⟩
  · exact ((HS2.out.st (by omega) (by omega)).st (by omega) (by omega)).st (by omega) (by omega)
  · exact tn_own1 (tn_own1 (tn_own1 HI2.out.t (by omega)) (by omega)) (by omega)

set_option maxRecDepth 100000 in
set_option maxHeartbeats 4000000 in
theorem head_no2 (b l : Nat) (s : ByteArray) (p f t : Nat) (fm : Int) (x : St) (W : World) (h : SL b l s p f t x W) (ok : x.Ok) (rd : rdB x p t 4 = true) (n : Nat) (hn4 : w4 s p = n) (ho : otH n = false) (hr : rdH n = true) (ok1 : (x.work 1).1.Ok) (rd2 : rdB (x.work 1).1 (p + 4) t ((n - 4 : Nat) : Int) = false) (k0 a0 : Int) (hf : (if ((x.work 1).1.work 1).1.r = 0 then Value.agg #[.int .i64 1, .int .i64 fm, .int .i64 t] else .agg #[.int .i64 4, .int .i64 fm, .int .i64 (p + 4 : Nat)]) = flV k0 fm a0) :
    Calls Tryd.prog 21 #[.agg #[.pointer (some ⟨b, 0, none⟩), .int .i64 fm, .int .i64 p]] W
      fun e w' => e = .returned (.tuple #[.string ⟨#[]⟩, flV k0 fm a0]) ∧ SL b l s (p + 4) f t ((x.work 1).1.work 1).1 w' ∧ Tn W w' [b, l] := by
  have hblt := h.so.lt
  have hllt := h.led.lt
  have hbl := h.so.bl
  have hpt := h.so.pt
  have hts := h.so.ts
  have hbig := h.so.big
  have hrd := (rd_of rd).2.2
  have KT := Lib.hid (show ∀ u, SL b l s p f t x u → Calls Tryd.prog 42 #[.pointer (some ⟨b, 0, none⟩), .int .i64 4] u fun e w' => e = .returned (.tuple #[.string (s.extract p (p + 4)), .bool true]) ∧ SL b l s (p + 4) f t (x.work 1).1 w' ∧ Tn u w' [b, l] from fun u hu => (take_yes b l s _ f t _ _ u hu.so hu.led ok rd).mono (fun e w' ⟨he, ⟨h1, h2⟩, g⟩ => ⟨he, ⟨h1, h2⟩, g⟩))
  have hn := bn_lt s p
  have K4 := fun u => n32_calls (s.extract p (p + 4)) 0 u (by rw [ByteArray.size_extract]; omega) (by rw [ByteArray.size_extract]; omega)
  rw [w4_ext s p (p + 4) 0 (by omega) (by omega), Nat.add_zero] at K4
  have K4 := Lib.hid (show ∀ u, Calls Tryd.prog 44 #[.string (s.extract p (p + 4)), .int .i64 0, .int .i64 4] u fun e w' => e = .returned (.int .i64 (w4 s p : Nat)) ∧ u = w' from K4)
  obtain ⟨z4, hz4⟩ : ∃ z, s.extract p (p + 4) = z := ⟨_, rfl⟩
  rw [hz4] at KT K4
  rw [hn4] at K4
  have hn12 : 12 ≤ n ∧ n ≤ 124 := by unfold rdH at hr; have := of_decide_eq_true hr; omega
  have hsub : IntKind.i64.wrap ((n : Int) - 4) = ((n - 4 : Nat) : Int) := by rw [IntKind.wrap_i64]; omega
  have KT2 := Lib.hid (show ∀ u, SL b l s (p + 4) f t (x.work 1).1 u → Calls Tryd.prog 42 #[.pointer (some ⟨b, 0, none⟩), .int .i64 ((n - 4 : Nat) : Int)] u fun e w' => e = .returned (.tuple #[.string ⟨#[]⟩, .bool false]) ∧ SL b l s (p + 4) f t ((x.work 1).1.work 1).1 w' ∧ Tn u w' [b, l] from fun u hu => (take_no b l s _ f t _ _ u hu.so hu.led ok1 rd2).mono (fun e w' ⟨he, ⟨h1, h2⟩, g⟩ => ⟨he, ⟨h1, h2⟩, Tn.gb g (by simp)⟩))
  have KF := Lib.hid (show ∀ u, SL b l s (p + 4) f t ((x.work 1).1.work 1).1 u → Calls Tryd.prog 43 #[.pointer (some ⟨b, 0, none⟩), .int .i64 fm] u fun e w' => e = .returned (flV k0 fm a0) ∧ SL b l s (p + 4) f t ((x.work 1).1.work 1).1 w' ∧ Tn u w' [b, l] from fun u hu => (fault_calls b l s _ f t _ fm u hu.so hu.led).mono (fun e w' ⟨he, g⟩ => ⟨by rw [he]; exact congrArg Ending.returned hf, hu.grown g, Tn.gb g (by simp)⟩))
  have KO := fun u => isother_calls (n : Int) u
  rw [ho] at KO
  have KO := Lib.hid KO
  have KR := fun u => isread_calls (n : Int) u
  rw [hr] at KR
  have KR := Lib.hid KR
  clear ho hr rd hn4 hz4 hrd hn rd2 ok1 hf
  unfold flV at KF ⊢
  obtain ⟨n4, hn4⟩ : ∃ q : Int, ((n - 4 : Nat) : Int) = q := ⟨_, rfl⟩
  rw [hn4] at KT2 hsub
  clear hn4 hn12
  have HS := Lib.hid (fun u (g : W.grownBy u none) => h.grown g)
  clear h ok hpt hts hbig
  go_enter Tryd.func21, Tryd.ntmps21
  go_upto_region 1 with fail
  have I0 : HI W b l fm p _ := HI.new
  have HS0 := Lib.hid (HS.out _ (gb_trans (World.grownBy_alloc W (.cells #[.pointer (some ⟨b, 0, none⟩), .int .i64 fm, .int .i64 p] 58) none) (World.grownBy_alloc (W.alloc (.cells #[.pointer (some ⟨b, 0, none⟩), .int .i64 fm, .int .i64 p] 58)) (.cells #[.int .i64 0, .int .i64 0, .int .i64 0] 33) none)))
  generalize ((W.alloc (.cells #[.pointer (some ⟨b, 0, none⟩), .int .i64 fm, .int .i64 p] 58)).alloc (.cells #[.int .i64 0, .int .i64 0, .int .i64 0] 33)) = w0 at I0 HS0 ⊢
  clear HS
  have c0 := blk_cell I0.r 0
  have c1 := blk_cell I0.r 1
  have c2 := blk_cell I0.r 2
  have d0 := blk_cell I0.f 0
  have d1 := blk_cell I0.f 1
  have d2 := blk_cell I0.f 2
  have e0 := blk_free I0.f 0
  have e1 := blk_free I0.f 1
  have e2 := blk_free I0.f 2
  have l0 := blk_lt I0.r
  have l1 := blk_lt I0.f
  simp only [List.getElem?_toArray, List.getElem?_cons_succ, List.getElem?_cons_zero] at c0 c1 c2 d0 d1 d2
  have HI0 := Lib.hid I0
  clear I0
  go_wp2_with fail
  refine (KT.out _ HS0.out).mono ?_
  rintro e w_I1 ⟨rfl, S9, t9⟩
  have I1 := HI0.out.turned hblt hllt t9
  have HS1 := Lib.hid S9
  clear S9 t9 HI0
  clear c0 c1 c2 d0 d1 d2 e0 e1 e2 l0 l1
  have c0 := blk_cell I1.r 0
  have c1 := blk_cell I1.r 1
  have c2 := blk_cell I1.r 2
  have d0 := blk_cell I1.f 0
  have d1 := blk_cell I1.f 1
  have d2 := blk_cell I1.f 2
  have e0 := blk_free I1.f 0
  have e1 := blk_free I1.f 1
  have e2 := blk_free I1.f 2
  have l0 := blk_lt I1.r
  have l1 := blk_lt I1.f
  simp only [List.getElem?_toArray, List.getElem?_cons_succ, List.getElem?_cons_zero] at c0 c1 c2 d0 d1 d2
  have HI1 := Lib.hid I1
  clear I1
  go_wp2_with fail
  refine (K4.out _).mono ?_
  rintro e w' ⟨rfl, rfl⟩
  go_wp2_with fail
  refine (KO.out _).mono ?_
  rintro e w' ⟨rfl, rfl⟩
  go_wp2_with fail
  refine (KR.out _).mono ?_
  rintro e w' ⟨rfl, rfl⟩
  go_wp2_with fail
  refine (KT2.out _ HS1.out).mono ?_
  rintro e w_I2 ⟨rfl, S9, t9⟩
  have I2 := HI1.out.turned hblt hllt t9
  have HS2 := Lib.hid S9
  clear S9 t9 HI1
  clear c0 c1 c2 d0 d1 d2 e0 e1 e2 l0 l1
  have c0 := blk_cell I2.r 0
  have c1 := blk_cell I2.r 1
  have c2 := blk_cell I2.r 2
  have d0 := blk_cell I2.f 0
  have d1 := blk_cell I2.f 1
  have d2 := blk_cell I2.f 2
  have e0 := blk_free I2.f 0
  have e1 := blk_free I2.f 1
  have e2 := blk_free I2.f 2
  have l0 := blk_lt I2.r
  have l1 := blk_lt I2.f
  simp only [List.getElem?_toArray, List.getElem?_cons_succ, List.getElem?_cons_zero] at c0 c1 c2 d0 d1 d2
  have HI2 := Lib.hid I2
  clear I2
  go_wp2_with fail
  refine (KF.out _ HS2.out).mono ?_
  rintro e w_I3 ⟨rfl, S9, t9⟩
  have I3 := HI2.out.turned hblt hllt t9
  have HS3 := Lib.hid S9
  clear S9 t9 HI2
  clear c0 c1 c2 d0 d1 d2 e0 e1 e2 l0 l1
  have c0 := blk_cell I3.r 0
  have c1 := blk_cell I3.r 1
  have c2 := blk_cell I3.r 2
  have d0 := blk_cell I3.f 0
  have d1 := blk_cell I3.f 1
  have d2 := blk_cell I3.f 2
  have e0 := blk_free I3.f 0
  have e1 := blk_free I3.f 1
  have e2 := blk_free I3.f 2
  have l0 := blk_lt I3.r
  have l1 := blk_lt I3.f
  simp only [List.getElem?_toArray, List.getElem?_cons_succ, List.getElem?_cons_zero] at c0 c1 c2 d0 d1 d2
  have HI3 := Lib.hid I3
  clear I3
  go_wp2
  refine bodyPost_ret (v := .tuple #[.string ⟨#[]⟩, .agg #[.int .i64 k0, .int .i64 fm, .int .i64 a0]]) (by simp only [results, Tryd.results21]; go_simp) rfl ⟨rfl, ?_, ?_⟩
  · exact ((HS3.out.st (by omega) (by omega)).st (by omega) (by omega)).st (by omega) (by omega)
  · exact tn_own1 (tn_own1 (tn_own1 HI3.out.t (by omega)) (by omega)) (by omega)

set_option maxRecDepth 100000 in
set_option maxHeartbeats 4000000 in
theorem head_yes (b l : Nat) (s : ByteArray) (p f t : Nat) (fm : Int) (x : St) (W : World) (h : SL b l s p f t x W) (ok : x.Ok) (rd : rdB x p t 4 = true) (n : Nat) (hn4 : w4 s p = n) (ho : otH n = false) (hr : rdH n = true) (ok1 : (x.work 1).1.Ok) (rd2 : rdB (x.work 1).1 (p + 4) t ((n - 4 : Nat) : Int) = true) :
    Calls Tryd.prog 21 #[.agg #[.pointer (some ⟨b, 0, none⟩), .int .i64 fm, .int .i64 p]] W
      fun e w' => e = .returned (.tuple #[.string (s.extract p (p + n)), flV 0 0 0]) ∧ SL b l s (p + n) f t ((x.work 1).1.work 1).1 w' ∧ Tn W w' [b, l] := by
  have hblt := h.so.lt
  have hllt := h.led.lt
  have hbl := h.so.bl
  have hpt := h.so.pt
  have hts := h.so.ts
  have hbig := h.so.big
  have hrd := (rd_of rd).2.2
  have KT := Lib.hid (show ∀ u, SL b l s p f t x u → Calls Tryd.prog 42 #[.pointer (some ⟨b, 0, none⟩), .int .i64 4] u fun e w' => e = .returned (.tuple #[.string (s.extract p (p + 4)), .bool true]) ∧ SL b l s (p + 4) f t (x.work 1).1 w' ∧ Tn u w' [b, l] from fun u hu => (take_yes b l s _ f t _ _ u hu.so hu.led ok rd).mono (fun e w' ⟨he, ⟨h1, h2⟩, g⟩ => ⟨he, ⟨h1, h2⟩, g⟩))
  have hn := bn_lt s p
  have K4 := fun u => n32_calls (s.extract p (p + 4)) 0 u (by rw [ByteArray.size_extract]; omega) (by rw [ByteArray.size_extract]; omega)
  rw [w4_ext s p (p + 4) 0 (by omega) (by omega), Nat.add_zero] at K4
  have K4 := Lib.hid (show ∀ u, Calls Tryd.prog 44 #[.string (s.extract p (p + 4)), .int .i64 0, .int .i64 4] u fun e w' => e = .returned (.int .i64 (w4 s p : Nat)) ∧ u = w' from K4)
  obtain ⟨z4, hz4⟩ : ∃ z, s.extract p (p + 4) = z := ⟨_, rfl⟩
  rw [hz4] at KT K4
  rw [hn4] at K4
  have hn12 : 12 ≤ n ∧ n ≤ 124 := by unfold rdH at hr; have := of_decide_eq_true hr; omega
  have hsub : IntKind.i64.wrap ((n : Int) - 4) = ((n - 4 : Nat) : Int) := by rw [IntKind.wrap_i64]; omega
  have hrd2 := (rd_of rd2).2.2
  have hcat : s.extract p (p + 4) ++ s.extract (p + 4) (p + 4 + (n - 4)) = s.extract p (p + n) := by
    rw [show p + 4 + (n - 4) = p + n from by omega]
    apply ByteArray.ext
    apply Array.toList_inj.1
    have e1 : (s.extract p (p + n)).data.toList = (s.data.toList.drop p).take n := by rw [Lib.extract_data, Nat.add_sub_cancel_left]
    have e2 : (s.extract p (p + 4)).data.toList = (s.data.toList.drop p).take 4 := by rw [Lib.extract_data, Nat.add_sub_cancel_left]
    have e3 : (s.extract (p + 4) (p + n)).data.toList = ((s.data.toList.drop p).drop 4).take (n - 4) := by rw [Lib.extract_data, List.drop_drop]; congr 1; omega
    rw [ByteArray.data_append, Array.toList_append, e1, e2, e3, ← List.take_add, show 4 + (n - 4) = n from by omega]
  have hz : (s.extract p (p + 4)).size = 4 := by rw [ByteArray.size_extract]; omega
  have hzb : (s.extract (p + 4) (p + 4 + (n - 4))).size = n - 4 := by rw [ByteArray.size_extract]; omega
  have KT2 := Lib.hid (show ∀ u, SL b l s (p + 4) f t (x.work 1).1 u → Calls Tryd.prog 42 #[.pointer (some ⟨b, 0, none⟩), .int .i64 ((n - 4 : Nat) : Int)] u fun e w' => e = .returned (.tuple #[.string (s.extract (p + 4) (p + 4 + (n - 4))), .bool true]) ∧ SL b l s (p + 4 + (n - 4)) f t ((x.work 1).1.work 1).1 w' ∧ Tn u w' [b, l] from fun u hu => (take_yes b l s _ f t _ _ u hu.so hu.led ok1 rd2).mono (fun e w' ⟨he, ⟨h1, h2⟩, g⟩ => ⟨he, ⟨h1, h2⟩, g⟩))
  obtain ⟨zb, hzbe⟩ : ∃ z, s.extract (p + 4) (p + 4 + (n - 4)) = z := ⟨_, rfl⟩
  rw [hzbe] at KT2 hcat hzb
  rw [hz4] at hcat hz
  rw [← hcat, show p + n = p + 4 + (n - 4) from by omega]
  have hsz : ¬ 9223372036854775807 < z4.size + zb.size := by omega
  have KO := fun u => isother_calls (n : Int) u
  rw [ho] at KO
  have KO := Lib.hid KO
  have KR := fun u => isread_calls (n : Int) u
  rw [hr] at KR
  have KR := Lib.hid KR
  clear ho hr rd hn4 hz4 hrd hn rd2 ok1 hcat hz hzb hzbe hrd2
  unfold flV
  obtain ⟨q, hq⟩ : ∃ q, p + 4 + (n - 4) = q := ⟨_, rfl⟩
  rw [hq] at KT2 ⊢
  obtain ⟨n4, hn4⟩ : ∃ q : Int, ((n - 4 : Nat) : Int) = q := ⟨_, rfl⟩
  rw [hn4] at KT2 hsub
  clear hn4 hn12 hq
  have HS := Lib.hid (fun u (g : W.grownBy u none) => h.grown g)
  clear h ok hpt hts hbig
  go_enter Tryd.func21, Tryd.ntmps21
  go_upto_region 1 with fail
  have I0 : HI W b l fm p _ := HI.new
  have HS0 := Lib.hid (HS.out _ (gb_trans (World.grownBy_alloc W (.cells #[.pointer (some ⟨b, 0, none⟩), .int .i64 fm, .int .i64 p] 58) none) (World.grownBy_alloc (W.alloc (.cells #[.pointer (some ⟨b, 0, none⟩), .int .i64 fm, .int .i64 p] 58)) (.cells #[.int .i64 0, .int .i64 0, .int .i64 0] 33) none)))
  generalize ((W.alloc (.cells #[.pointer (some ⟨b, 0, none⟩), .int .i64 fm, .int .i64 p] 58)).alloc (.cells #[.int .i64 0, .int .i64 0, .int .i64 0] 33)) = w0 at I0 HS0 ⊢
  clear HS
  have c0 := blk_cell I0.r 0
  have c1 := blk_cell I0.r 1
  have c2 := blk_cell I0.r 2
  have d0 := blk_cell I0.f 0
  have d1 := blk_cell I0.f 1
  have d2 := blk_cell I0.f 2
  have e0 := blk_free I0.f 0
  have e1 := blk_free I0.f 1
  have e2 := blk_free I0.f 2
  have l0 := blk_lt I0.r
  have l1 := blk_lt I0.f
  simp only [List.getElem?_toArray, List.getElem?_cons_succ, List.getElem?_cons_zero] at c0 c1 c2 d0 d1 d2
  have HI0 := Lib.hid I0
  clear I0
  go_wp2_with fail
  refine (KT.out _ HS0.out).mono ?_
  rintro e w_I1 ⟨rfl, S9, t9⟩
  have I1 := HI0.out.turned hblt hllt t9
  have HS1 := Lib.hid S9
  clear S9 t9 HI0
  clear c0 c1 c2 d0 d1 d2 e0 e1 e2 l0 l1
  have c0 := blk_cell I1.r 0
  have c1 := blk_cell I1.r 1
  have c2 := blk_cell I1.r 2
  have d0 := blk_cell I1.f 0
  have d1 := blk_cell I1.f 1
  have d2 := blk_cell I1.f 2
  have e0 := blk_free I1.f 0
  have e1 := blk_free I1.f 1
  have e2 := blk_free I1.f 2
  have l0 := blk_lt I1.r
  have l1 := blk_lt I1.f
  simp only [List.getElem?_toArray, List.getElem?_cons_succ, List.getElem?_cons_zero] at c0 c1 c2 d0 d1 d2
  have HI1 := Lib.hid I1
  clear I1
  go_wp2_with fail
  refine (K4.out _).mono ?_
  rintro e w' ⟨rfl, rfl⟩
  go_wp2_with fail
  refine (KO.out _).mono ?_
  rintro e w' ⟨rfl, rfl⟩
  go_wp2_with fail
  refine (KR.out _).mono ?_
  rintro e w' ⟨rfl, rfl⟩
  go_wp2_with fail
  refine (KT2.out _ HS1.out).mono ?_
  rintro e w_I2 ⟨rfl, S9, t9⟩
  have I2 := HI1.out.turned hblt hllt t9
  have HS2 := Lib.hid S9
  clear S9 t9 HI1
  clear c0 c1 c2 d0 d1 d2 e0 e1 e2 l0 l1
  have c0 := blk_cell I2.r 0
  have c1 := blk_cell I2.r 1
  have c2 := blk_cell I2.r 2
  have d0 := blk_cell I2.f 0
  have d1 := blk_cell I2.f 1
  have d2 := blk_cell I2.f 2
  have e0 := blk_free I2.f 0
  have e1 := blk_free I2.f 1
  have e2 := blk_free I2.f 2
  have l0 := blk_lt I2.r
  have l1 := blk_lt I2.f
  simp only [List.getElem?_toArray, List.getElem?_cons_succ, List.getElem?_cons_zero] at c0 c1 c2 d0 d1 d2
  have HI2 := Lib.hid I2
  clear I2
  go_wp2
  refine bodyPost_ret (v := .tuple #[.string (z4 ++ zb), .agg #[.int .i64 0, .int .i64 0, .int .i64 0]]) (by simp only [results, Tryd.results21]; go_simp) rfl ⟨rfl, ?_, ?_⟩
  · exact ((HS2.out.st (by omega) (by omega)).st (by omega) (by omega)).st (by omega) (by omega)
  · exact tn_own1 (tn_own1 (tn_own1 HI2.out.t (by omega)) (by omega)) (by omega)

end Go.Proofs.YtikjfmpdfeaooaaDoor.Dh
