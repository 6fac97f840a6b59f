/- Layer 4's document's answers: do bytes stand there, bytes laid over others, freed. -/
import Derived.Test.YtodlibmdchiecaaBuf7
namespace Go.Proofs.Ytodlibmdchiecaa.Bu
open Go.ChangeShapes Go.WideShapes Go.ChangeAt Go.RowKit
open Go.Proofs.Ytodlibmdchiecaa.Le
set_option linter.unusedVariables false

/-- The document's state of a buffer: its bytes, is it open, how many its ledger counts. -/
def xagg (s : ByteArray) (o : Bool) (y : Int) : Value := .agg #[.string s, .bool o, .int .i64 y]

section
variable {w w' : World} {r : Option Nat} {o1 o2 o3 : Obj}
theorem old0 (g : w.grownBy w' r) {b : Nat} {x : Option Obj} (h : w.heap[b]? = x) (hb : b < w.heap.size) (hr : some b ≠ r) : w'.heap[b]? = x := (g.block b hb hr).trans h
theorem old1 (g : (w.alloc o1).grownBy w' r) (hr : some w.heap.size ≠ r) : w'.heap[w.heap.size]? = some o1 := (g.block _ (by rw [size_alloc]; omega) hr).trans blk_at
theorem old2a (g : ((w.alloc o1).alloc o2).grownBy w' r) (hr : some w.heap.size ≠ r) : w'.heap[w.heap.size]? = some o1 := (g.block _ (by rw [size_alloc, size_alloc]; omega) hr).trans (blk_al blk_at _)
theorem old2b (g : ((w.alloc o1).alloc o2).grownBy w' r) (hr : some (w.heap.size + 1) ≠ r) : w'.heap[w.heap.size + 1]? = some o2 :=
  (g.block _ (by rw [size_alloc, size_alloc]; omega) hr).trans (by have h := blk_at (w := w.alloc o1) (o := o2); rwa [size_alloc] at h)
theorem old3a (g : (((w.alloc o1).alloc o2).alloc o3).grownBy w' r) (hr : some w.heap.size ≠ r) : w'.heap[w.heap.size]? = some o1 := (g.block _ (by rw [size_alloc, size_alloc, size_alloc]; omega) hr).trans (blk_al (blk_al blk_at _) _)
theorem old3b (g : (((w.alloc o1).alloc o2).alloc o3).grownBy w' r) (hr : some (w.heap.size + 1) ≠ r) : w'.heap[w.heap.size + 1]? = some o2 :=
  (g.block _ (by rw [size_alloc, size_alloc, size_alloc]; omega) hr).trans (blk_al (by have h := blk_at (w := w.alloc o1) (o := o2); rwa [size_alloc] at h) _)
theorem old3c (g : (((w.alloc o1).alloc o2).alloc o3).grownBy w' r) (hr : some (w.heap.size + 1 + 1) ≠ r) : w'.heap[w.heap.size + 1 + 1]? = some o3 :=
  (g.block _ (by rw [size_alloc, size_alloc, size_alloc]; omega) hr).trans (by have h := blk_at (w := (w.alloc o1).alloc o2) (o := o3); rwa [size_alloc, size_alloc] at h)
end

set_option maxRecDepth 100000 in
theorem there_calls (s : ByteArray) (o : Bool) (y i k : Int) (w : World) (big : s.size ≤ 2147483647) (hi : i ≤ 9223372036854775807) :
    Calls Try.prog 19 #[.agg #[.string s, .bool o, .int .i64 y], .int .i64 i, .int .i64 k] w
      fun e w' => e = .returned (.bool (thereB o s.size i k)) ∧ w.grownBy w' none := by
  have done : ∀ (w' : World), w.alloc (.cells #[.string s, .bool o, .int .i64 y] 33) = w' → w.grownBy w' none := fun w' h => h ▸ World.grownBy_alloc _ _ _
  have HD := Lib.hid done
  clear done
  cases o with
  | false =>
    rw [show thereB false s.size i k = false from rfl]
    go_enter Try.func19, Try.ntmps19
    go_wp2
    go_ret
    exact ⟨rfl, HD.out _ rfl⟩
  | true =>
    by_cases h1 : 0 ≤ i
    · by_cases h2 : 0 ≤ k
      · by_cases h4 : i ≤ s.size
        · by_cases h3 : k ≤ s.size - i
          · rw [there_is ⟨rfl, h1, h2, h3⟩]
            have h3' : decide (k ≤ (s.size : Int) - i) = true := by simpa using h3
            go_enter Try.func19, Try.ntmps19
            go_wp2
            go_ret
            exact ⟨rfl, HD.out _ rfl⟩
          · rw [show thereB true s.size i k = false from by simp [thereB, h3]]
            have h3' : decide (k ≤ (s.size : Int) - i) = false := by simpa using h3
            clear h3
            go_enter Try.func19, Try.ntmps19
            go_wp2
            go_ret
            exact ⟨by rw [← h3']; rfl, HD.out _ rfl⟩
        · rw [show thereB true s.size i k = false from by
            have : ¬ k ≤ s.size - i := by omega
            simp [thereB, this]]
          have h4' : (s.size : Int) < i := by omega
          clear h4
          go_enter Try.func19, Try.ntmps19
          go_wp2
          go_ret
          exact ⟨rfl, HD.out _ rfl⟩
      · rw [show thereB true s.size i k = false from by simp [thereB, h2]]
        have h2' : k < 0 := by omega
        clear h2
        go_enter Try.func19, Try.ntmps19
        go_wp2
        go_ret
        exact ⟨rfl, HD.out _ rfl⟩
    · rw [show thereB true s.size i k = false from by simp [thereB, h1]]
      have h1' : i < 0 := by omega
      clear h1
      go_enter Try.func19, Try.ntmps19
      go_wp2
      go_ret
      exact ⟨rfl, HD.out _ rfl⟩

set_option maxRecDepth 100000 in
theorem rput_no (s t : ByteArray) (o : Bool) (y i : Int) (w : World) (big : s.size ≤ 2147483647) (hi : i ≤ 9223372036854775807) (hno : thereB o s.size i t.size = false) :
    Calls Try.prog 20 #[.agg #[.string s, .bool o, .int .i64 y], .int .i64 i, .string t] w
      fun e w' => e = .returned (.tuple #[.agg #[.string s, .bool o, .int .i64 y], .bool false]) ∧ w.grownBy w' none := by
  have K := fun w => there_calls s o y i t.size w big hi
  rw [hno] at K
  have HK := Lib.hid K
  have HG := Lib.hid (gb_trans (World.grownBy_alloc w (.cells #[.string s, .bool o, .int .i64 y] 33) none) (World.grownBy_alloc _ (.cells #[.string ByteArray.empty, .bool false, .int .i64 0] 33) none))
  clear K hno
  go_enter Try.func20, Try.ntmps20
  go_wp2_with fail
  refine (HK.out _).mono ?_
  rintro e w1 ⟨rfl, g1⟩
  have b0 := old2a g1 (by simp)
  have b1 := old2b g1 (by simp)
  have c0 := blk_cell b0 0
  have c1 := blk_cell b0 1
  have c2 := blk_cell b0 2
  have d0 := blk_cell b1 0
  have d1 := blk_cell b1 1
  have d2 := blk_cell b1 2
  simp only [List.getElem?_toArray, List.getElem?_cons_succ, List.getElem?_cons_zero] at c0 c1 c2 d0 d1 d2
  have fr := fun o => blk_free b1 o
  have G1 := Lib.hid (Tn.own (gb_trans HG.out g1) (S := [w.heap.size + 1]) (r := none) (w' := ((w1.setCell ⟨w.heap.size + 1, 0, none⟩ (.string s)).setCell ⟨w.heap.size + 1, 1, none⟩ (.bool o)).setCell ⟨w.heap.size + 1, 2, none⟩ (.int .i64 y)) (((Tn.set _ _ _ _ (by simp)).trans (Tn.set _ _ _ _ (by simp))).trans (Tn.set _ _ _ _ (by simp))) (by
    intro x hx
    simp at hx
    exact .inl (by omega)))
  clear g1 HG HK b0 b1
  go_wp2
  refine bodyPost_ret (v := .tuple #[.agg #[.string s, .bool o, .int .i64 y], .bool false]) (by simp [results, Try.results20, go_sem, d0, d1, d2]) rfl ⟨rfl, G1.out⟩

theorem ext_size (s : ByteArray) (a b : Nat) (h : b ≤ s.size) : (s.extract a b).size = b - a := by
  rw [Lib.size_eq, Lib.extract_data, List.length_take, List.length_drop, ← Lib.size_eq]; omega
theorem app_size (s t : ByteArray) : (s ++ t).size = s.size + t.size := by
  rw [Lib.size_eq, Lib.size_eq, Lib.size_eq, ByteArray.data_append, Array.toList_append, List.length_append]

set_option maxRecDepth 100000 in
theorem rput_yes (s t : ByteArray) (y : Int) (i : Nat) (w : World) (big : s.size ≤ 2147483647) (hi : i + t.size ≤ s.size) :
    Calls Try.prog 20 #[.agg #[.string s, .bool true, .int .i64 y], .int .i64 i, .string t] w
      fun e w' => e = .returned (.tuple #[.agg #[.string (putS s t i), .bool true, .int .i64 y], .bool true]) ∧ w.grownBy w' none := by
  have K := fun w => there_calls s true y i t.size w big (by omega)
  rw [there_is ⟨rfl, by omega, by omega, by omega⟩] at K
  have HK := Lib.hid K
  have HG := Lib.hid (gb_trans (World.grownBy_alloc w (.cells #[.string s, .bool true, .int .i64 y] 33) none) (World.grownBy_alloc _ (.cells #[.string ByteArray.empty, .bool false, .int .i64 0] 33) none))
  have z1 := ext_size s 0 i (by omega)
  have z2 := ext_size s (i + t.size) s.size (by omega)
  have z3 := app_size (s.extract 0 i) t
  rw [z1] at z3
  obtain ⟨z, hz⟩ : ∃ z, putS s t i = z := ⟨_, rfl⟩
  have HZ := Lib.hid (show s.extract 0 i ++ t ++ s.extract (i + t.size) s.size = z from hz)
  rw [hz]
  clear K hz
  go_enter Try.func20, Try.ntmps20
  go_wp2_with fail
  refine (HK.out _).mono ?_
  rintro e w1 ⟨rfl, g1⟩
  have b0 := old2a g1 (by simp)
  have b1 := old2b g1 (by simp)
  have c0 := blk_cell b0 0
  have c1 := blk_cell b0 1
  have c2 := blk_cell b0 2
  have d0 := blk_cell b1 0
  have d1 := blk_cell b1 1
  have d2 := blk_cell b1 2
  simp only [List.getElem?_toArray, List.getElem?_cons_succ, List.getElem?_cons_zero] at c0 c1 c2 d0 d1 d2
  have fr := fun o => blk_free b1 o
  have f0 := fun o => blk_free b0 o
  have G1 := Lib.hid (gb_trans HG.out g1)
  clear g1 HG HK b0 b1
  go_wp2
  go_region
  simp only [HZ.out]
  clear z1 z2 z3
  have G2 := Lib.hid (Tn.own G1.out (S := [w.heap.size, w.heap.size + 1]) (r := none) (w' := ((((w1.setCell ⟨w.heap.size, 0, none⟩ (.string z)).drew.setCell ⟨w.heap.size + 1, 0, none⟩ (.string z)).setCell ⟨w.heap.size + 1, 1, none⟩ (.bool true)).setCell ⟨w.heap.size + 1, 2, none⟩ (.int .i64 y)))
    (((((Tn.set _ _ _ _ (by simp)).trans (Tn.drew _ _)).trans (Tn.set _ _ _ _ (by simp))).trans (Tn.set _ _ _ _ (by simp))).trans (Tn.set _ _ _ _ (by simp))) (by
    intro x hx
    simp at hx
    exact .inl (by omega)))
  clear G1
  go_wp2
  refine bodyPost_ret (v := .tuple #[.agg #[.string z, .bool true, .int .i64 y], .bool true]) (by simp [results, Try.results20, go_sem, d0, d1, d2]) rfl ⟨rfl, G2.out⟩

set_option maxRecDepth 100000 in
theorem rfree_calls (s : ByteArray) (o : Bool) (y : Int) (w : World) (big : s.size ≤ 2147483647) (y0 : s.size ≤ y) (y1 : y ≤ 9223372036854775807) :
    Calls Try.prog 24 #[.agg #[.string s, .bool o, .int .i64 y]] w
      fun e w' => e = .returned (.tuple #[if o then .agg #[.string ByteArray.empty, .bool false, .int .i64 (y - s.size)] else .agg #[.string s, .bool o, .int .i64 y], .bool o]) ∧ w.grownBy w' none := by
  cases o with
  | false =>
    go_enter Try.func24, Try.ntmps24
    go_wp2
    refine bodyPost_ret (v := .tuple #[.agg #[.string s, .bool false, .int .i64 y], .bool false]) (by simp [results, Try.results24, go_sem]) rfl ⟨rfl, ?_⟩
    exact gb_trans (World.grownBy_alloc _ _ _) (World.grownBy_alloc _ _ _)
  | true =>
    go_enter Try.func24, Try.ntmps24
    go_wp2
    refine bodyPost_ret (v := .tuple #[.agg #[.string ⟨#[]⟩, .bool false, .int .i64 (y - s.size)], .bool true]) (by simp [results, Try.results24, go_sem]) rfl ⟨rfl, ?_⟩
    exact gb_trans (World.grownBy_alloc _ _ _) (World.grownBy_alloc _ _ _)

end Go.Proofs.Ytodlibmdchiecaa.Bu
