/- Texts of one kind, one behind the other: Am1. -/
import Derived.Laws.AppendOwn
import Derived.Lib.ConvBytes
import Derived.Lib.FrozenHead2
import Derived.Lib.Hide
import Derived.Lib.SlBytesConst
import Derived.Test.YtmhghkgcfgacdaaGreatG07
/- Bytes put behind a row that a conversion of a text or of a literal has made (its mark lies behind its last cell). -/
namespace Go.Proofs.YtmhghkgcfgacdaaGreat.Am
open Go.ChangeShapes Go.WideShapes Go.ChangeAt Go.RowKit
set_option linter.unusedVariables false

/-- A row of bytes of the call's own, plain or marked behind its cells. -/
def Mr (B : Nat) (v : Value) (n : Nat) (xs : List Value) (w : World) : Prop :=
  xs.length = n ∧ ∃ g cap cur fz, v = .slice (some ⟨g, 0, none⟩) n cap ∧ B ≤ g ∧ w.heap[g]? = some (.cells cur 5 fz) ∧ (fz = (0, 0) ∨ cap ≤ fz.1) ∧ n ≤ cap ∧ cap ≤ maxLen ∧ cur.size = cap ∧ cur.toList.take n = xs

theorem Mr.lt {B : Nat} {v : Value} {n : Nat} {xs : List Value} {w : World} (h : Mr B v n xs w) : ∀ k, v.ownBlock = some k → B ≤ k ∧ k < w.heap.size := by
  obtain ⟨_, g, cap, cur, fz, rfl, hb, hg, _⟩ := h
  intro k hk
  simp [Value.ownBlock] at hk
  subst hk
  exact ⟨hb, (Array.getElem?_eq_some_iff.1 hg).1⟩
theorem Mr.kept {B : Nat} {v : Value} {n : Nat} {xs : List Value} {w w' : World} {row : Option Nat} (h : Mr B v n xs w) (hg : w.grownBy w' row) (hne : v.ownBlock ≠ row) : Mr B v n xs w' := by
  obtain ⟨hl, g, cap, cur, fz, rfl, hb, hgg, rest⟩ := h
  refine ⟨hl, g, cap, cur, fz, rfl, hb, ?_, rest⟩
  rw [hg.block g (Array.getElem?_eq_some_iff.1 hgg).1 (fun e => hne (by rw [← e]; rfl))]
  exact hgg
theorem Mr.alloc {B : Nat} {v : Value} {n : Nat} {xs : List Value} {w : World} (h : Mr B v n xs w) (o : Obj) : Mr B v n xs (w.alloc o) :=
  h.kept (World.grownBy_alloc w o none) (by obtain ⟨_, g, cap, cur, fz, rfl, _⟩ := h; simp [Value.ownBlock])
theorem Mr.cells {B g n c : Nat} {xs : List Value} {w : World} (h : Mr B (.slice (some ⟨g, 0, none⟩) n c) n xs w) : ∀ j u, xs[j]? = some u → w.cell? ((⟨g, 0, none⟩ : Addr).add j) = some u := by
  obtain ⟨hl, g', cap, cur, fz, e, _, hgg, _, _, _, _, ht⟩ := h
  simp at e
  obtain ⟨rfl, rfl⟩ := e
  intro j u hu
  have hadd : (⟨g, 0, none⟩ : Addr).add j = ⟨g, j, none⟩ := by unfold Addr.add; split <;> simp_all
  rw [hadd, cell_of_row w g j cur _ fz hgg]
  rw [← ht, List.getElem?_take] at hu
  split at hu
  · simpa using hu
  · cases hu
/-- What a conversion of a text makes. -/
theorem Mr.conv (w : World) (s : ByteArray) (hs : s.size ≤ 1000) (B : Nat) (hB : B ≤ w.heap.size) : Mr B (.slice (some ⟨w.heap.size, 0, none⟩) s.size (grownCap w s.size 0 5)) s.size (s.data.toList.map fun b => Value.int .u8 b.toNat) (Lib.bytesWorld w 5 s) := by
  have hge := grownCap_ge w s.size 0 5
  have hsz : (Lib.bytesCells w 5 s).size = grownCap w s.size 0 5 := by
    have : s.data.size = s.size := rfl
    simp [Lib.bytesCells, this]; try omega
  refine ⟨by simp, _, _, _, _, rfl, hB, Lib.bytesWorld_at_new w _ s, .inr (Nat.le_of_eq hsz.symm), hge, grownCap_le_maxLen w s.size 0 _ (by unfold maxLen; omega), hsz, ?_⟩
  have h1 : (s.data.toList.map fun b => Value.int .u8 b.toNat).length = s.size := by simp
  simp only [Lib.bytesCells, Array.toList_append, Array.toList_map]
  rw [← h1, List.take_left]
/-- What a conversion of a literal makes. -/
theorem Mr.lit (w : World) (xs : List Value) (B n : Nat) (hB : B ≤ w.heap.size) (hn : xs.length = n) (h1 : n ≤ 1000) : Mr B (.slice (some ⟨w.heap.size, 0, none⟩) n n) n xs (w.alloc (.cells xs.toArray 5 (xs.toArray.size, xs.toArray.size + 1))) := by
  refine ⟨hn, _, _, _, _, rfl, hB, heap_alloc_new w _, .inr (by simp [hn]), Nat.le_refl _, by unfold maxLen; omega, by simp [hn], ?_⟩
  simp [← hn]

section
variable {P : Program} (w : World)

/-- Cells stored where the row is not frozen. -/
theorem store_free (g o : Nat) (t : TypeId) (fz : Nat × Nat) : ∀ (vs : List Value) (i : Nat) (cur : Array Value) (w : World), w.heap[g]? = some (.cells cur t fz) → (fz.2 = 0 ∨ cur.size ≤ fz.1) → o + i + vs.length ≤ cur.size → (∀ v ∈ vs, v.oneCell' = true) →
    (storeCells ⟨g, o, none⟩ vs i).run P w = .ok () (w.setRow g (cur.toList.take (o + i) ++ vs ++ cur.toList.drop (o + i + vs.length)).toArray) := by
  intro vs
  induction vs with
  | nil =>
    intro i cur w hg _ _ _
    simp only [storeCells, List.append_nil, List.length_nil, Nat.add_zero, List.take_append_drop, Array.toArray_toList]
    rw [setRow_self w g cur t fz hg]
    rfl
  | cons v rest ih =>
    intro i cur w hg hfz hl h1
    have hi : o + i < cur.size := by simp at hl; omega
    have hadd : (⟨g, o, none⟩ : Addr).add i = ⟨g, o + i, none⟩ := by unfold Addr.add; split <;> simp_all
    have hcell : w.cell? ⟨g, o + i, none⟩ = some cur[o + i] := by simp [World.cell?, hg, hi]
    have hfro : w.frozen? ⟨g, o + i, none⟩ = false := by
      obtain ⟨lo, hi'⟩ := fz
      simp only [World.frozen?, hg, Bool.and_eq_false_iff, decide_eq_false_iff_not]
      simp only at hfz
      omega
    have hst : (store ((⟨g, o, none⟩ : Addr).add i) v).run P w = .ok () (w.setRow g (cur.setIfInBounds (o + i) v)) := by
      rw [hadd, run_store P w _ v _ (h1 v (by simp)), hcell]
      simp [hfro, setCell_eq_setRow w g (o + i) cur t fz v hg]
    have k := ih (i + 1) (cur.setIfInBounds (o + i) v) (w.setRow g (cur.setIfInBounds (o + i) v)) (setRow_heap w g cur _ t _ hg) (by simpa using hfz) (by simp at hl ⊢; omega) (fun x hx => h1 x (by simp [hx]))
    simp only [storeCells, Sem.run_bind, hst, Result.andThen_ok, k, setRow_setRow]
    congr 3
    have e := list_seg_step cur.toList (o + i) v rest (by simp at hl ⊢; omega)
    simpa [Array.toList_setIfInBounds, Nat.add_assoc] using e

theorem Mr.append (B : Nat) (ty : TypeId) (i : TypeInfo) (ht : P.underlying 25 = some (.slice 5)) (hi : P.info? 5 = some i) (hz : i.zero = some (.int .u8 0)) (hs1 : i.size = 1) (hb1 : i.bytes = 1)
    (v : Value) (n : Nat) (xs : List Value) (h : Mr B v n xs w) (a : Addr) (m c : Nat) (news : List Value) (hl : news.length = m) (hnews : ∀ j u, news[j]? = some u → w.cell? (a.add j) = some u) (h1 : ∀ u ∈ news, u.oneCell' = true)
    (hm : n + m ≤ 1000000) (hB : B ≤ w.heap.size) :
    ∃ v' w', (Builtin.append_ #[25, 25] ty #[v, .slice (some a) m c]).run P w = .ok v' w' ∧ Mr B v' (n + m) (xs ++ news) w' ∧ w.grownBy w' v.ownBlock := by
  have h' := h
  obtain ⟨hxl, g, cap, cur, fz, rfl, hbg, hg, hfz, hnc, hcm, hcs, htake⟩ := h'
  have hlen : (xs ++ news).length = n + m := by rw [List.length_append, hxl, hl]
  by_cases hroom : n + m ≤ cap
  · have hf := run_firstCells_some (P := P) w 1 m a m c news (by omega) hnews
    have hst := store_free (P := P) g n 5 fz news 0 cur w hg (hfz.elim (fun e => .inl (by rw [e])) (fun e => .inr (by omega))) (by omega) h1
    simp only [Nat.add_zero] at hst
    refine ⟨.slice (some ⟨g, 0, none⟩) (n + m) cap, w.setRow g (cur.toList.take n ++ news ++ cur.toList.drop (n + news.length)).toArray, by simp [Builtin.append_, run_underlying ht, sizeOf, typeInfo, hi, Builtin.lenOf, hroom, hf, hs1, Addr.add_lit, hst],
      ⟨hlen, g, cap, _, fz, rfl, hbg, setRow_heap w g cur _ _ _ hg, hfz, hroom, hcm, ?_, ?_⟩, ⟨rfl, rfl, rfl, by simp, fun k _ hk => setRow_other w g k _ (fun e => hk (by simp [Value.ownBlock, e]))⟩⟩
    · simp only [List.size_toArray, List.length_append, List.length_take, List.length_drop, Array.length_toList]
      omega
    · rw [htake, ← hlen]
      exact List.take_left
  · have hr := run_append_grow (P := P) w 25 ty 5 i (.int .u8 0) ht hi hz ⟨g, 0, none⟩ n cap xs (by rw [hs1]; omega) h.cells a m c news (by rw [hs1]; omega) hnews (by omega) (by omega) (growslice_fits (by omega) (by rw [hb1]; omega))
    have hge := grownCap_ge w (n + m) cap 5
    have hcm2 : grownCap w (n + m) cap 5 ≤ maxLen := grownCap_le_maxLen w (n + m) cap _ (by unfold maxLen; omega)
    refine ⟨_, _, hr, ⟨hlen, w.heap.size, _, _, (0, 0), rfl, hB, heap_alloc_new w.drew _, .inl rfl, hge, hcm2, ?_, ?_⟩, ⟨rfl, rfl, rfl, by simp, fun k hk _ => heap_alloc_old w.drew _ hk⟩⟩
    · have hz1 : (Value.int IntKind.u8 0).cells.size = 1 := rfl
      simp only [Array.size_append, List.size_toArray, size_zeroCells, hz1, hxl, hl]
      omega
    · simp only [Array.toList_append, List.append_assoc]
      rw [← List.append_assoc, ← hlen]
      exact List.take_left
end

/-- The operation, for the walk. -/
theorem wpList_append_mr {P : Program} (w : World) {ops : Array Oper} {rest : List Oper} {o : Oper} {a : Act} {Q : Exit → Act → World → Prop} (hgd : o.guard = none) (s x : Operand)
    (ho : o.op = .call { callee := .builtin .append, args := #[s, x], argTypes := #[25, 25] })
    (B : Nat) (i : TypeInfo) (ht : P.underlying 25 = some (.slice 5)) (hi : P.info? 5 = some i) (hz : i.zero = some (.int .u8 0)) (hs1 : i.size = 1) (hb1 : i.bytes = 1)
    (v : Value) (n : Nat) (xs : List Value) (hs : a.eval s = v) (hown : Mr B v n xs w)
    (ad : Addr) (m c : Nat) (news : List Value) (hx : a.eval x = .slice (some ad) m c) (hl : news.length = m) (hnews : ∀ j u, news[j]? = some u → w.cell? (ad.add j) = some u) (h1 : ∀ u ∈ news, u.oneCell' = true)
    (hm : n + m ≤ 1000000) (hB : B ≤ w.heap.size)
    (h : ∀ v' w', Mr B v' (n + m) (xs ++ news) w' → w.grownBy w' v.ownBlock → wpList P ops Q rest (a.put o.dst v') w') : wpList P ops Q (o :: rest) a w := by
  refine wpList_plain hgd fun K hK => ?_
  obtain ⟨v', w', hr, h2, h3⟩ := Mr.append (P := P) w B o.type i ht hi hz hs1 hb1 v n xs hown ad m c news hl hnews h1 hm hB
  unfold Oper.wp execOp
  simp only [ho, resolve, invoke, builtin, Sem.run_bind, Sem.run_pure, Result.andThen_ok, List.map_toArray, List.map_cons, List.map_nil, hs, hx, hr]
  exact hK _ _ (h v' w' h2 h3)

end Go.Proofs.YtmhghkgcfgacdaaGreat.Am
