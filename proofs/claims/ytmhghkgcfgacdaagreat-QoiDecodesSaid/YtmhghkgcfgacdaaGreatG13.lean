/- Texts of one kind, one behind the other: Buf1, Buf2. -/
import Derived.Laws.MakeOwn
import Derived.Lib.BufferWrite
import Derived.Lib.SlBytesRow
import Derived.Test.YtmhghkgcfgacdaaGreatG06
/- Package buf: bytes that are counted, in memory: an open buffer, one that was let go; what is asked of its bytes, and what is written there. -/
namespace Go.Proofs.YtmhghkgcfgacdaaGreat.Bu
open Go.ChangeShapes Go.WideShapes Go.ChangeAt Go.RowKit
open Go.Proofs.YtmhghkgcfgacdaaGreat.Le
set_option linter.unusedVariables false

/-- A text's bytes, a cell each. -/
def bys (s : ByteArray) : Array Value := (Lib.byteCells s.data.toList).toArray
theorem bys_size (s : ByteArray) : (bys s).size = s.size := by rw [Lib.size_eq]; simp [bys, Lib.byteCells]
theorem bys_at (s : ByteArray) (i : Nat) (h : i < s.size) : (bys s)[i]? = some (.int .u8 (s[i].toNat : Int)) := by
  have h' := Go.Proofs.byte_at s i h
  unfold bys Lib.byteCells
  rw [List.getElem?_toArray, List.getElem?_map, h']
  rfl

/-- The cells of a buffer that is open, and of one that isn't any more. -/
def openCells (l g n : Nat) : Array Value := #[.pointer (some ⟨l, 0, none⟩), .slice (some ⟨g, 0, none⟩) n n, .bool true, .int .u32 0, .int .i32 0, .int .u32 0]
def shutCells (l : Nat) : Array Value := #[.pointer (some ⟨l, 0, none⟩), .slice none 0 0, .bool false, .int .u32 1, .int .i32 0, .int .u32 0]

/-- Block b is an open buffer of the ledger l; its bytes s lie in block g. -/
structure BOpen (b l g : Nat) (s : ByteArray) (w : World) : Prop where
  blk : w.heap[b]? = some (.cells (openCells l g s.size) 145 (0, 0))
  byt : w.heap[g]? = some (.cells (bys s) 5 (0, 0))
  big : s.size ≤ 2147483647
  bl : b ≠ l
  bg : b ≠ g
  gl : g ≠ l
/-- Block b is a buffer of the ledger l that was let go. -/
structure BShut (b l : Nat) (w : World) : Prop where
  blk : w.heap[b]? = some (.cells (shutCells l) 145 (0, 0))
  bl : b ≠ l

theorem BOpen.grown {b l g : Nat} {s : ByteArray} {w w' : World} {r : Option Nat} (h : BOpen b l g s w) (k : w.grownBy w' r) (h1 : some b ≠ r) (h2 : some g ≠ r) : BOpen b l g s w' :=
  ⟨(k.block b (blk_lt h.blk) h1).trans h.blk, (k.block g (blk_lt h.byt) h2).trans h.byt, h.big, h.bl, h.bg, h.gl⟩
theorem BShut.grown {b l : Nat} {w w' : World} {r : Option Nat} (h : BShut b l w) (k : w.grownBy w' r) (h1 : some b ≠ r) : BShut b l w' :=
  ⟨(k.block b (blk_lt h.blk) h1).trans h.blk, h.bl⟩
theorem BOpen.lt {b l g : Nat} {s : ByteArray} {w : World} (h : BOpen b l g s w) : b < w.heap.size := blk_lt h.blk
theorem BOpen.glt {b l g : Nat} {s : ByteArray} {w : World} (h : BOpen b l g s w) : g < w.heap.size := blk_lt h.byt
theorem BShut.lt {b l : Nat} {w : World} (h : BShut b l w) : b < w.heap.size := blk_lt h.blk

/-- What a buffer answers is told by: is it open, and its bytes. -/
def Bf (b l g : Nat) (o : Bool) (s : ByteArray) (w : World) : Prop := (o = true ∧ BOpen b l g s w) ∨ (o = false ∧ s = ByteArray.empty ∧ BShut b l w)
theorem Bf.grown {b l g : Nat} {o : Bool} {s : ByteArray} {w w' : World} {r : Option Nat} (h : Bf b l g o s w) (k : w.grownBy w' r) (h1 : some b ≠ r) (h2 : some g ≠ r) : Bf b l g o s w' := by
  rcases h with ⟨h0, h⟩ | ⟨h0, h3, h⟩
  · exact .inl ⟨h0, h.grown k h1 h2⟩
  · exact .inr ⟨h0, h3, h.grown k h1⟩
theorem Bf.c1 {b l g : Nat} {o : Bool} {s : ByteArray} {w : World} (h : Bf b l g o s w) : w.cell? ⟨b, 1, none⟩ = some (.slice (if o then some ⟨g, 0, none⟩ else none) s.size s.size) := by
  rcases h with ⟨rfl, h⟩ | ⟨rfl, rfl, h⟩
  · exact blk_cell h.blk 1
  · exact blk_cell h.blk 1
theorem Bf.c2 {b l g : Nat} {o : Bool} {s : ByteArray} {w : World} (h : Bf b l g o s w) : w.cell? ⟨b, 2, none⟩ = some (.bool o) := by
  rcases h with ⟨rfl, h⟩ | ⟨rfl, rfl, h⟩
  · exact blk_cell h.blk 2
  · exact blk_cell h.blk 2
theorem Bf.big {b l g : Nat} {o : Bool} {s : ByteArray} {w : World} (h : Bf b l g o s w) : s.size ≤ 2147483647 := by
  rcases h with ⟨rfl, h⟩ | ⟨rfl, rfl, h⟩
  · exact h.big
  · exact Nat.zero_le _

theorem len_calls (b l g : Nat) (o : Bool) (s : ByteArray) (w : World) (h : Bf b l g o s w) :
    Calls Tryz.prog 115 #[.pointer (some ⟨b, 0, none⟩)] w fun e w' => e = .returned (.int .i64 s.size) ∧ w = w' := by
  have c1 := h.c1
  obtain ⟨a, ha⟩ : ∃ a, (if o = true then some (⟨g, 0, none⟩ : Addr) else none) = a := ⟨_, rfl⟩
  rw [ha] at c1
  clear h ha
  go_enter Tryz.func115, Tryz.ntmps115
  go_wp2
  go_ret
  exact ⟨rfl, rfl⟩

/-- Do k bytes stand from i on? -/
def thereB (o : Bool) (n : Nat) (i k : Int) : Bool := o && decide (0 ≤ i) && decide (0 ≤ k) && decide (k ≤ n - i)
theorem there_of {o : Bool} {n : Nat} {i k : Int} (h : thereB o n i k = true) : o = true ∧ 0 ≤ i ∧ 0 ≤ k ∧ k ≤ n - i := by
  simpa [thereB, and_assoc] using h
theorem there_is {o : Bool} {n : Nat} {i k : Int} (h : o = true ∧ 0 ≤ i ∧ 0 ≤ k ∧ k ≤ n - i) : thereB o n i k = true := by
  simpa [thereB, and_assoc] using h

theorem has_cells (b : Nat) (o : Bool) (a : Option Addr) (n c : Nat) (i k : Int) (w : World) (c1 : w.cell? ⟨b, 1, none⟩ = some (.slice a n c)) (c2 : w.cell? ⟨b, 2, none⟩ = some (.bool o))
    (hn : n ≤ 2147483647) (hi : i ≤ 9223372036854775807) :
    Calls Tryz.prog 116 #[.pointer (some ⟨b, 0, none⟩), .int .i64 i, .int .i64 k] w fun e w' => e = .returned (.bool (thereB o n i k)) ∧ w = w' := by
  cases o with
  | false =>
    rw [show thereB false n i k = false from rfl]
    go_enter Tryz.func116, Tryz.ntmps116
    go_wp2
    go_ret
    exact ⟨rfl, rfl⟩
  | true =>
    by_cases h1 : 0 ≤ i
    · by_cases h2 : 0 ≤ k
      · by_cases h3 : k ≤ n - i
        · rw [there_is ⟨rfl, h1, h2, h3⟩]
          go_enter Tryz.func116, Tryz.ntmps116
          go_wp2
          go_ret
          exact ⟨rfl, rfl⟩
        · rw [show thereB true n i k = false from by simp [thereB, h3]]
          have h3' : decide (k ≤ (n : Int) - i) = false := by simpa using h3
          go_enter Tryz.func116, Tryz.ntmps116
          go_wp2
          go_ret
          exact ⟨by rw [← h3']; rfl, rfl⟩
      · rw [show thereB true n i k = false from by simp [thereB, h2]]
        have h2' : k < 0 := by omega
        clear h2
        go_enter Tryz.func116, Tryz.ntmps116
        go_wp2
        go_ret
        exact ⟨rfl, rfl⟩
    · rw [show thereB true n i k = false from by simp [thereB, h1]]
      have h1' : i < 0 := by omega
      clear h1
      go_enter Tryz.func116, Tryz.ntmps116
      go_wp2
      go_ret
      exact ⟨rfl, rfl⟩

theorem has_calls (b l g : Nat) (o : Bool) (s : ByteArray) (i k : Int) (w : World) (h : Bf b l g o s w) (hi : i ≤ 9223372036854775807) :
    Calls Tryz.prog 116 #[.pointer (some ⟨b, 0, none⟩), .int .i64 i, .int .i64 k] w fun e w' => e = .returned (.bool (thereB o s.size i k)) ∧ w = w' :=
  has_cells b o _ _ _ i k w h.c1 h.c2 h.big hi

/-- The bytes t laid over s from i on. -/
def putS (s t : ByteArray) (i : Nat) : ByteArray := s.extract 0 i ++ t ++ s.extract (i + t.size) s.size
theorem putS_list (s t : ByteArray) (i : Nat) : (putS s t i).data.toList = s.data.toList.take i ++ t.data.toList ++ s.data.toList.drop (i + t.size) := by
  have e1 : (s.extract (i + t.size) s.size).data.toList = s.data.toList.drop (i + t.size) := by
    rw [Lib.extract_data]
    exact List.take_of_length_le (by rw [List.length_drop, ← Lib.size_eq]; exact Nat.le_refl _)
  have e2 : (s.extract 0 i).data.toList = s.data.toList.take i := by rw [Lib.extract_data]; simp
  unfold putS
  rw [ByteArray.data_append, ByteArray.data_append, Array.toList_append, Array.toList_append, e1, e2]
theorem putS_size (s t : ByteArray) (i : Nat) (h : i + t.size ≤ s.size) : (putS s t i).size = s.size := by
  have e : ∀ x : ByteArray, x.size = x.data.toList.length := Lib.size_eq
  rw [e (putS s t i), putS_list]
  have h1 := e s
  have h2 := e t
  simp only [List.length_append, List.length_take, List.length_drop]
  omega
theorem bys_put (s t : ByteArray) (i : Nat) : bys (putS s t i) = ((bys s).toList.take i ++ Lib.byteCells t.data.toList ++ (bys s).toList.drop (i + t.size)).toArray := by
  unfold bys
  rw [putS_list]
  simp [Lib.byteCells, List.map_take, List.map_drop]

end Go.Proofs.YtmhghkgcfgacdaaGreat.Bu

/- Package buf: bytes that are written, and told. -/
namespace Go.Proofs.YtmhghkgcfgacdaaGreat.Bu
open Go.ChangeShapes Go.WideShapes Go.ChangeAt Go.RowKit
open Go.Proofs.YtmhghkgcfgacdaaGreat.Le
set_option linter.unusedVariables false

/-- One byte, as a text. -/
def one (v : UInt8) : ByteArray := ⟨#[v]⟩
theorem one_size (v : UInt8) : (one v).size = 1 := rfl

theorem bys_set (s : ByteArray) (i : Nat) (v : UInt8) (h : i < s.size) : (bys s).setIfInBounds i (.int .u8 (v.toNat : Int)) = bys (putS s (one v) i) := by
  rw [bys_put]
  apply Array.toList_inj.1
  have hl : i < (bys s).toList.length := by
    have := bys_size s
    simpa using this ▸ h
  rw [Array.toList_setIfInBounds, List.set_eq_take_append_cons_drop, if_pos hl]
  simp [one, Lib.byteCells]
  rfl

theorem BOpen.put {b l g : Nat} {s : ByteArray} {w w' : World} (h : BOpen b l g s w) (k : w.grownBy w' (some g)) (t : ByteArray) (i : Nat) (hi : i + t.size ≤ s.size)
    (hb : w'.heap[g]? = some (.cells (bys (putS s t i)) 5 (0, 0))) : BOpen b l g (putS s t i) w' := by
  refine ⟨?_, hb, by rw [putS_size _ _ _ hi]; exact h.big, h.bl, h.bg, h.gl⟩
  rw [putS_size _ _ _ hi]
  exact (k.block b (blk_lt h.blk) (by have := h.bg; simpa using this)).trans h.blk

theorem put_no (b l g : Nat) (o : Bool) (s t : ByteArray) (i : Int) (w : World) (h : Bf b l g o s w) (hi : i ≤ 9223372036854775807) (hno : thereB o s.size i t.size = false) :
    Calls Tryz.prog 112 #[.pointer (some ⟨b, 0, none⟩), .int .i64 i, .string t] w fun e w' => e = .returned (.bool false) ∧ w = w' := by
  have K := has_calls b l g o s i t.size w h hi
  rw [hno] at K
  have K' := Lib.hid K
  clear K h hno
  go_enter Tryz.func112, Tryz.ntmps112
  go_wp2_with (go_at_call 116; refine K'.out.mono ?_; rintro e w' ⟨rfl, rfl⟩)
  go_ret
  exact ⟨rfl, rfl⟩

theorem elem8 : (Tryz.prog.info? 5).map (·.size) = some 1 := by kernel_rfl
theorem size8 (w : World) : (Go.sizeOf 5).run Tryz.prog w = .ok 1 w := by
  have h := elem8
  cases hq : Tryz.prog.info? 5 with
  | none => simp [hq] at h
  | some i =>
    have hi : i.size = 1 := by simpa [hq] using h
    simp [sizeOf, typeInfo, hq, hi]
theorem und8 : Tryz.prog.underlying 25 = some (.slice 5) := by kernel_rfl

theorem setRow_gb (w : World) (g : Nat) (C : Array Value) : w.grownBy (w.setRow g C) (some g) :=
  ⟨rfl, rfl, rfl, by simp [World.setRow], fun k hk hr => setRow_other w g k C (fun e => hr (by rw [e]))⟩

/-- 's[i:]' of a slice of bytes, i not above its length. -/
theorem slice_from (w : World) (g n : Nat) (i : Nat) (h : i ≤ n) :
    (Instr.slice 25 (.slice (some ⟨g, 0, none⟩) n n) (some (.int .i64 (i : Int))) none none).run Tryz.prog w = .ok (.slice (some ⟨g, if n = i then 0 else i, none⟩) (n - i) (n - i)) w := by
  have ht' : Tryz.prog.underlying 25 = some (.slice (Tryz.prog.elem 25)) := by kernel_rfl
  have he : Tryz.prog.elem 25 = 5 := by kernel_rfl
  have hs := size8 w
  by_cases h0 : n = i
  · subst h0
    simp [Instr.slice, run_underlying ht', Instr.sliceBounds, run_sliceBound, he, hs, Result.andThen, Addr.add]
  · simp [Instr.slice, run_underlying ht', Instr.sliceBounds, run_sliceBound, he, hs, Result.andThen, Addr.add, h0, h]
    exact fun e => e.symm

/-- 's[i:i+k]' of one. -/
theorem slice_part (w : World) (g n : Nat) (i k : Nat) (h : i + k ≤ n) :
    (Instr.slice 25 (.slice (some ⟨g, 0, none⟩) n n) (some (.int .i64 (i : Int))) (some (.int .i64 ((i : Int) + k))) none).run Tryz.prog w = .ok (.slice (some ⟨g, if n = i then 0 else i, none⟩) k (n - i)) w := by
  have ht' : Tryz.prog.underlying 25 = some (.slice (Tryz.prog.elem 25)) := by kernel_rfl
  have he : Tryz.prog.elem 25 = 5 := by kernel_rfl
  have hs := size8 w
  rw [show ((i : Int) + k) = ((i + k : Nat) : Int) from by omega, run_slice_lh w _ _ _ _ ht' .i64 .i64 _ _ (by omega) (by omega) (by omega), he, hs]
  by_cases h0 : n = i
  · subst h0
    simp [Result.andThen, sliced]
    omega
  · simp [Result.andThen, sliced, Addr.add, h0]
    exact ⟨fun e => e.symm, by omega⟩

set_option maxRecDepth 100000 in
theorem put_yes (b l g : Nat) (s t : ByteArray) (i : Nat) (w : World) (h : BOpen b l g s w) (hi : i + t.size ≤ s.size) :
    Calls Tryz.prog 112 #[.pointer (some ⟨b, 0, none⟩), .int .i64 i, .string t] w
      fun e w' => e = .returned (.bool true) ∧ BOpen b l g (putS s t i) w' ∧ w.grownBy w' (some g) := by
  have K := has_calls b l g true s i t.size w (.inl ⟨rfl, h⟩) (by have := h.big; omega)
  rw [there_is ⟨rfl, by omega, by omega, by omega⟩] at K
  have K' := Lib.hid K
  have c1 : w.cell? ⟨b, 1, none⟩ = some (.slice (some ⟨g, 0, none⟩) s.size s.size) := blk_cell h.blk 1
  have hsl := slice_from w g s.size i (by omega)
  have hbig := h.big
  by_cases h0 : t.size = 0
  · have e0 : putS s t i = s := by
      have et : t.data.toList = [] := List.eq_nil_of_length_eq_zero (by rw [← Lib.size_eq]; exact h0)
      apply ByteArray.ext
      apply Array.toList_inj.1
      rw [putS_list, et, h0]
      simp
    rw [e0]
    obtain ⟨o, ho⟩ : ∃ o, (if s.size = i then 0 else i) = o := ⟨_, rfl⟩
    rw [ho] at hsl
    have hcp := Lib.run_copy_empty_string (P := Tryz.prog) w 25 9 3 5 (some ⟨g, o, none⟩) (s.size - i) (s.size - i) t und8 (by kernel_rfl) h0
    have H := Lib.hid h
    clear K h e0 h0 ho
    go_enter Tryz.func112, Tryz.ntmps112
    go_wp2_with (go_at_call 116; refine K'.out.mono ?_; rintro e w' ⟨rfl, rfl⟩)
    go_ret
    exact ⟨rfl, H.out, gb_refl _ _⟩
  · have hne : ¬ s.size = i := by omega
    rw [if_neg hne] at hsl
    have hcp := Lib.run_copy_row_string (P := Tryz.prog) w 25 9 3 5 g i (s.size - i) (s.size - i) t (bys s) 5 und8 elem8 h.byt (by omega) (by rw [bys_size]; exact hi)
    rw [← bys_put] at hcp
    have P := Lib.hid (h.put (setRow_gb w g (bys (putS s t i))) t i hi (setRow_heap _ _ _ _ _ _ h.byt))
    obtain ⟨C, hC⟩ : ∃ C, bys (putS s t i) = C := ⟨_, rfl⟩
    rw [hC] at hcp P
    clear K h hC hne h0
    go_enter Tryz.func112, Tryz.ntmps112
    go_wp2_with (go_at_call 116; refine K'.out.mono ?_; rintro e w' ⟨rfl, rfl⟩)
    go_ret
    exact ⟨rfl, P.out, setRow_gb _ _ _⟩

end Go.Proofs.YtmhghkgcfgacdaaGreat.Bu
