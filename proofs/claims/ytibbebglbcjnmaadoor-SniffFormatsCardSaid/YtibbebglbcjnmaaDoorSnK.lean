/- Layer 30: the document's All and Format. -/
import Derived.Test.YtibbebglbcjnmaaDoorSnH
import Derived.Test.YtibbebglbcjnmaaDoorSnI
import Derived.Test.YtibbebglbcjnmaaDoorSnJ
import Derived.Test.YtibbebglbcjnmaaDoorSn3
import Derived.Test.YtibbebglbcjnmaaDoorSn8
import Derived.Deep.LoopGhost
import Derived.BigRegion
namespace Go.Proofs.YtibbebglbcjnmaaDoor.Sn
open Go.ChangeShapes Go.WideShapes Go.ChangeAt Go.RowKit
open Go.Proofs.YtibbebglbcjnmaaDoor.Le Go.Proofs.YtibbebglbcjnmaaDoor.Tk
set_option linter.unusedVariables false

theorem rhas_ord (s : ByteArray) (B : Nat → Bool) (H : Hs s B) (h2 : B 2 = Tg.tgB s) (j : Nat) (h : j < 8) (u : World) : Calls Tryd.prog 12 #[.string s, .int .i64 (ordN j : Nat)] u fun e w' => e = .returned (.bool (B (ordN j))) ∧ u = w' := by
  obtain rfl | rfl | rfl | rfl | rfl | rfl | rfl | rfl : j = 0 ∨ j = 1 ∨ j = 2 ∨ j = 3 ∨ j = 4 ∨ j = 5 ∨ j = 6 ∨ j = 7 := by omega
  · show Calls _ _ _ _ fun e w' => e = .returned (.bool (B 1)) ∧ u = w'
    rw [H.b1]; exact rhas_1 s u
  · exact rhas_3 s _ H.b3 u
  · show Calls _ _ _ _ fun e w' => e = .returned (.bool (B 5)) ∧ u = w'
    rw [H.b5]; exact rhas_5 s u
  · show Calls _ _ _ _ fun e w' => e = .returned (.bool (B 6)) ∧ u = w'
    rw [H.b6]; exact rhas_6 s u
  · show Calls _ _ _ _ fun e w' => e = .returned (.bool (B 8)) ∧ u = w'
    rw [H.b8]; exact rhas_8 s u
  · exact rhas_7 s _ H.b7 u
  · show Calls _ _ _ _ fun e w' => e = .returned (.bool (B 4)) ∧ u = w'
    rw [H.b4]; exact rhas_4 s u
  · show Calls _ _ _ _ fun e w' => e = .returned (.bool (B 2)) ∧ u = w'
    rw [h2]; exact rhas_2 s u
/-- A format that is none is no sign. -/
def hasB (B : Nat → Bool) (f : Int) : Bool := decide (1 ≤ f ∧ f ≤ 8) && B f.toNat
theorem ord_find (f : Int) (h : 1 ≤ f ∧ f ≤ 8) : ∃ j, j < 8 ∧ f = ((ordN j : Nat) : Int) := by
  obtain rfl | rfl | rfl | rfl | rfl | rfl | rfl | rfl : f = 1 ∨ f = 2 ∨ f = 3 ∨ f = 4 ∨ f = 5 ∨ f = 6 ∨ f = 7 ∨ f = 8 := by omega
  · exact ⟨0, by decide, rfl⟩
  · exact ⟨7, by decide, rfl⟩
  · exact ⟨1, by decide, rfl⟩
  · exact ⟨6, by decide, rfl⟩
  · exact ⟨2, by decide, rfl⟩
  · exact ⟨3, by decide, rfl⟩
  · exact ⟨5, by decide, rfl⟩
  · exact ⟨4, by decide, rfl⟩
theorem hasB_in (B : Nat → Bool) (j : Nat) (h : j < 8) : hasB B ((ordN j : Nat) : Int) = B (ordN j) := by
  obtain rfl | rfl | rfl | rfl | rfl | rfl | rfl | rfl : j = 0 ∨ j = 1 ∨ j = 2 ∨ j = 3 ∨ j = 4 ∨ j = 5 ∨ j = 6 ∨ j = 7 := by omega
  all_goals (unfold hasB; rw [decide_eq_true (by decide)]; rfl)
theorem rhas_any (s : ByteArray) (B : Nat → Bool) (H : Hs s B) (h2 : B 2 = Tg.tgB s) (f : Int) (u : World) : Calls Tryd.prog 12 #[.string s, .int .i64 f] u fun e w' => e = .returned (.bool (hasB B f)) ∧ u = w' := by
  by_cases hf : 1 ≤ f ∧ f ≤ 8
  · obtain ⟨j, hj, rfl⟩ := ord_find f hf
    rw [hasB_in B j hj]
    exact rhas_ord s B H h2 j hj u
  · rw [show hasB B f = false by unfold hasB; rw [decide_eq_false hf]; rfl]
    exact rhas_none s f (by omega) u
theorem has_any (s : ByteArray) (B : Nat → Bool) (H : Hs s B) (hs : s.size ≤ 9223372036854775807) (f : Int) (u : World) : Calls Tryd.prog 11 #[.string s, .int .i64 f] u fun e w' => e = .returned (.bool (hasB B f)) ∧ u.grownBy w' none := by
  by_cases hf : 1 ≤ f ∧ f ≤ 8
  · obtain ⟨j, hj, rfl⟩ := ord_find f hf
    rw [hasB_in B j hj]
    obtain rfl | rfl | rfl | rfl | rfl | rfl | rfl | rfl : j = 0 ∨ j = 1 ∨ j = 2 ∨ j = 3 ∨ j = 4 ∨ j = 5 ∨ j = 6 ∨ j = 7 := by omega
    · exact has_1 s B H hs u
    · exact has_3 s B H hs u
    · exact has_5 s B H hs u
    · exact has_6 s B H hs u
    · exact has_8 s B H hs u
    · exact has_7 s B H hs u
    · exact has_4 s B H hs u
    · exact has_2 s B H hs u
  · rw [show hasB B f = false by unfold hasB; rw [decide_eq_false hf]; rfl]
    exact has_none s f (by omega) u

theorem undIp : Tryd.prog.underlying 23 = some (.slice 3) := by kernel_rfl
theorem infoI : ∃ i, Tryd.prog.info? 3 = some i ∧ i.zero = some (.int .i64 0) ∧ i.size = 1 ∧ i.bytes = 8 := info_parts (by kernel_rfl)
def iv (n : Nat) : Value := .int .i64 (n : Nat)
theorem gb_rowi {W w w' : World} {v : Value} {B n k : Nat} {e : TypeId} {xs : List Value} (g : W.grownBy w none) (O : w.ownsRow B e k v n xs) (hB : W.heap.size ≤ B) (h : w.grownBy w' v.ownBlock) : W.grownBy w' none := gb_rowq g O hB h
/-- A row of formats of the call's own. -/
structure YI (W w : World) (tv : Value) (L : List Nat) : Prop where
  own : w.ownsRow W.heap.size 3 1 tv L.length (L.map iv)
  g : W.grownBy w none
  sh : ∃ g2 c2, tv = .slice (some ⟨g2, 0, none⟩) L.length c2
theorem YI.gb {W w w' : World} {tv : Value} {L : List Nat} (h : YI W w tv L) (q : w.grownBy w' none) : YI W w' tv L := ⟨h.own.kept q (by cases e : tv.ownBlock <;> simp), gb_trans h.g q, h.sh⟩
theorem YI.start (W : World) : YI W (W.alloc (.cells #[] 3)) (.slice (some ⟨W.heap.size, 0, none⟩) 0 0) [] :=
  ⟨World.ownsRow_made W #[] 0 (Nat.le_refl _) (by unfold maxLen; omega) (by simp), World.grownBy_alloc _ _ _, ⟨_, _, rfl⟩⟩
theorem iv_one (l : List Nat) : ∀ u ∈ l.map iv, u.oneCell' = true := by
  intro u hu
  simp only [List.mem_map] at hu
  obtain ⟨x, _, rfl⟩ := hu
  rfl
/-- A format is put behind them. -/
theorem YI.app {W u : World} {tv : Value} {L : List Nat} {ops : Array Oper} {rest : List Oper} {o : Oper} {a : Act} {Q : Exit → Act → World → Prop} {s x : Operand} {cs : Array Value} (y : Nat) (H : YI W u tv L) (hcs : cs = #[iv y]) (hm : L.length + 1 ≤ 4000000)
    (hgd : o.guard = none) (ho : o.op = .call { callee := .builtin .append, args := #[s, x], argTypes := #[23, 23] }) (hs : a.eval s = tv) (hx : a.eval x = .slice (some ⟨u.heap.size, 0, none⟩) 1 1)
    (hh : ∀ t' w', YI W w' t' (L ++ [y]) → u.grownBy w' tv.ownBlock → (t'.ownBlock = tv.ownBlock ∨ ∃ g, t'.ownBlock = some g ∧ u.heap.size < g) → wpList Tryd.prog ops Q rest (a.put o.dst t') w') : wpList Tryd.prog ops Q (o :: rest) a (u.alloc (.cells cs 3)) := by
  subst hcs
  obtain ⟨i0, hi0, hz0, hz1, hz2⟩ := infoI
  have H1 := H.gb (World.grownBy_alloc u (.cells #[iv y] 3) none)
  refine wpList_append_lies (u.alloc (.cells #[iv y] 3)) hgd s x 23 ho W.heap.size 3 i0 _ 1 8 undIp hi0 hz0 hz1 hz2 rfl (by decide) tv L.length (L.map iv) hs H1.own ⟨u.heap.size, 0, none⟩ 1 1 [iv y] hx rfl ?_ (iv_one [y]) (by omega) (by unfold maxLen; omega) (by omega)
    H1.g.size _ rfl (fun g cap w' h1 h2 h3 _ => hh _ w' ⟨by rw [List.length_append, List.map_append]; exact h1, gb_rowi H1.g H1.own (Nat.le_refl _) h2, ⟨g, cap, by rw [List.length_append]; rfl⟩⟩ (gb_trans (World.grownBy_alloc u _ _) h2) (h3.elim (fun e => .inl e.symm) fun e => .inr ⟨g, rfl, by rw [e, size_alloc]; omega⟩))
  exact World.news_of_block (cs := #[iv y]) (t := 3) (fr := (0, 0)) (heap_alloc_new u _)
theorem YI.cell {W w : World} {g2 n c2 : Nat} {L : List Nat} (h : YI W w (.slice (some ⟨g2, 0, none⟩) n c2) L) (i : Nat) (hi : i < L.length) : w.cell? ⟨g2, i, none⟩ = some (.int .i64 ((L[i]'hi : Nat) : Int)) := by
  have h1 := World.ownsRow.cells h.own (g := g2) rfl i (.int .i64 ((L[i]'hi : Nat) : Int)) (by rw [List.getElem?_map, List.getElem?_eq_getElem hi]; rfl)
  have hadd : (⟨g2, 0, none⟩ : Addr).add i = ⟨g2, 0 + i, none⟩ := by unfold Addr.add; split <;> simp_all
  rw [hadd, Nat.zero_add] at h1
  exact h1

theorem own_ne {g nb n c : Nat} (h : g < nb) : (Value.slice (some ⟨g, 0, none⟩) n c).ownBlock ≠ some nb := fun e => by
  have e' : g = nb := Option.some.inj e
  omega
theorem own_app {t' tv : Value} {k nb : Nat} (ho : t'.ownBlock = tv.ownBlock ∨ ∃ g, t'.ownBlock = some g ∧ k < g) (hne : tv.ownBlock ≠ some nb) (hl : nb < k) : t'.ownBlock ≠ some nb := by
  rcases ho with e | ⟨g, e, h⟩
  · rw [e]; exact hne
  · rw [e]
    intro e2
    have e3 : g = nb := Option.some.inj e2
    omega
theorem ord_at (j : Nat) (h : j < 8) : (#[.int .i64 1, .int .i64 3, .int .i64 5, .int .i64 6, .int .i64 8, .int .i64 7, .int .i64 4, .int .i64 2] : Array Value)[j]? = some (.int .i64 (ordN j : Nat)) := by
  obtain rfl | rfl | rfl | rfl | rfl | rfl | rfl | rfl : j = 0 ∨ j = 1 ∨ j = 2 ∨ j = 3 ∨ j = 4 ∨ j = 5 ∨ j = 6 ∨ j = 7 := by omega
  all_goals rfl
set_option maxRecDepth 100000 in
set_option maxHeartbeats 4000000 in
theorem rall_calls (s : ByteArray) (B : Nat → Bool) (KR : ∀ j, j < 8 → ∀ u, Calls Tryd.prog 12 #[.string s, .int .i64 (ordN j : Nat)] u fun e w' => e = .returned (.bool (B (ordN j))) ∧ u = w') (W : World) :
    Calls Tryd.prog 8 #[.string s] W fun e w' => ∃ tv, e = .returned tv ∧ YI W w' tv (allL B) := by
  have HK := Lib.hid KR
  clear KR
  have HY0 := Lib.hid (YI.start W)
  have HSZ := Lib.hid (show W.heap.size < (W.alloc (.cells #[] 3)).heap.size by rw [size_alloc]; omega)
  go_enter Tryd.func8, Tryd.ntmps8
  go_upto_region 2 with fail
  generalize W.alloc (.cells #[] 3) = w0 at HY0 HSZ ⊢
  have HLT := Lib.hid (show W.heap.size < w0.heap.size from HSZ.out)
  generalize W.heap.size = gb at HY0 HLT ⊢
  have HN := Lib.hid (blk_at (w := w0) (o := .cells #[.int .i64 1, .int .i64 3, .int .i64 5, .int .i64 6, .int .i64 8, .int .i64 7, .int .i64 4, .int .i64 2] 3))
  have HY1 := Lib.hid (HY0.out.gb (World.grownBy_alloc w0 (.cells #[.int .i64 1, .int .i64 3, .int .i64 5, .int .i64 6, .int .i64 8, .int .i64 7, .int .i64 4, .int .i64 2] 3) none))
  clear HY0
  go_wp2_with fail
  generalize w0.alloc (.cells #[.int .i64 1, .int .i64 3, .int .i64 5, .int .i64 6, .int .i64 8, .int .i64 7, .int .i64 4, .int .i64 2] 3) = w1 at HN HY1 ⊢
  generalize w0.heap.size = nb at HN HLT ⊢
  go_loopg [3, 9] 9 (fun q tv iv wr => ∃ j : Nat, j ≤ 8 ∧ q = 9 - j ∧ iv = .int .i64 (j : Nat) ∧ wr.heap[nb]? = some (.cells #[.int .i64 1, .int .i64 3, .int .i64 5, .int .i64 6, .int .i64 8, .int .i64 7, .int .i64 4, .int .i64 2] 3 (0, 0)) ∧ tv.ownBlock ≠ some nb ∧ YI W wr tv (upL B j))
  case atStart => exact ⟨0, by omega, rfl, rfl, HN.out, own_ne HLT.out, HY1.out⟩
  case round =>
    obtain ⟨j, hj, rfl, rfl, hN, hne, HB⟩ := hrel
    have HNE := Lib.hid hne
    clear hne
    have HB := Lib.hid HB
    have HN2 := Lib.hid hN
    clear HN HY1
    by_cases hlt : j < 8
    · have e1 : decide ((j : Int) < 8) = true := decide_eq_true (by omega)
      have c0 := (blk_cell hN j).trans (ord_at j hlt)
      have KH := HK.out j hlt
      have hul := upL_len B j hlt
      have HUL := Lib.hid hul
      obtain ⟨f, hf⟩ : ∃ f, ordN j = f := ⟨_, rfl⟩
      obtain ⟨bb, hbb⟩ : ∃ b, B f = b := ⟨_, rfl⟩
      rw [hf] at c0 KH
      rw [hbb] at KH
      have KH := Lib.hid KH
      have HF := Lib.hid (And.intro hf hbb)
      clear hf hbb hN hul
      cases bb with
      | true =>
        have HU := Lib.hid (show upL B (j + 1) = upL B j ++ [f] from by rw [upL_yes hlt (by rw [HF.out.1]; exact HF.out.2), HF.out.1])
        go_wp2_with fail
        refine (KH.out _).mono ?_
        rintro e w' ⟨rfl, rfl⟩
        go_wp2_with (at_builtin; refine YI.app f HB.out rfl (by have := HUL.out; omega) rfl rfl rfl rfl ?_; intro t3 w3 HB3 hg3 ho3; have HN3 := Lib.hid ((hg3.block nb (blk_lt HN2.out) (fun e => HNE.out e.symm)).trans HN2.out); have HE3 := Lib.hid (show t3.ownBlock ≠ some nb from own_app ho3 HNE.out (blk_lt HN2.out)); clear hg3 ho3; obtain ⟨g3, c3, rfl⟩ := HB3.sh; rw [List.length_append] at HE3; have hsh := HB3; rw [List.length_append] at hsh; have HB3 := Lib.hid hsh; clear hsh)
        go_roundg (9 - (j + 1))
        case measure => omega
        case rel => exact ⟨j + 1, by omega, rfl, by go_num, HN3.out, HE3.out, by rw [HU.out]; exact HB3.out⟩
      | false =>
        have HU := Lib.hid (show upL B (j + 1) = upL B j from upL_no hlt (by rw [HF.out.1]; exact HF.out.2))
        go_wp2_with fail
        refine (KH.out _).mono ?_
        rintro e w' ⟨rfl, rfl⟩
        go_wp2
        go_roundg (9 - (j + 1))
        case measure => omega
        case rel => exact ⟨j + 1, by omega, rfl, by go_num, HN2.out, HNE.out, by rw [HU.out]; exact HB.out⟩
    · obtain rfl : j = 8 := by omega
      obtain ⟨g3, c3, rfl⟩ := HB.out.sh
      go_wp2
      go_ret
      exact ⟨_, rfl, HB.out⟩

end Go.Proofs.YtibbebglbcjnmaaDoor.Sn
