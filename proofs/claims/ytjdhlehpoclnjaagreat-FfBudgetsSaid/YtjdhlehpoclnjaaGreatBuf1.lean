/- Package buf: bytes that are counted, in memory: an open buffer, one that was let go; what is asked of its bytes, and what is written there. -/
import Derived.Test.YtjdhlehpoclnjaaGreatLed5
import Derived.Lib.BufferWrite
import Derived.Lib.SlBytesRow
import Derived.Laws.MakeOwn
namespace Go.Proofs.YtjdhlehpoclnjaaGreat.Bu
open Go.ChangeShapes Go.WideShapes Go.ChangeAt Go.RowKit
open Go.Proofs.YtjdhlehpoclnjaaGreat.Le
set_option linter.unusedVariables false

/-- A text's bytes, a cell each. -/
def bys (s : ByteArray) : Array Value := (Lib.byteCells s.data.toList).toArray
theorem bys_size (s : ByteArray) : (bys s).size = s.size := by rw [Lib.size_eq]; simp [bys, Lib.byteCells]
theorem bys_at (s : ByteArray) (i : Nat) (h : i < s.size) : (bys s)[i]? = some (.int .u8 (s[i].toNat : Int)) := by
  have h' := Go.Proofs.byte_at s i h
  unfold bys Lib.byteCells
  rw [List.getElem?_toArray, List.getElem?_map, h']
  rfl

/-- The cells of a buffer that is open, and of one that isn't any more. -/
def openCells (l g n : Nat) : Array Value := #[.pointer (some ⟨l, 0, none⟩), .slice (some ⟨g, 0, none⟩) n n, .bool true, .int .u32 0, .int .i32 0, .int .u32 0]
def shutCells (l : Nat) : Array Value := #[.pointer (some ⟨l, 0, none⟩), .slice none 0 0, .bool false, .int .u32 1, .int .i32 0, .int .u32 0]

/-- Block b is an open buffer of the ledger l; its bytes s lie in block g. -/
structure BOpen (b l g : Nat) (s : ByteArray) (w : World) : Prop where
  blk : w.heap[b]? = some (.cells (openCells l g s.size) 161 (0, 0))
  byt : w.heap[g]? = some (.cells (bys s) 5 (0, 0))
  big : s.size ≤ 2147483647
  bl : b ≠ l
  bg : b ≠ g
  gl : g ≠ l
/-- Block b is a buffer of the ledger l that was let go. -/
structure BShut (b l : Nat) (w : World) : Prop where
  blk : w.heap[b]? = some (.cells (shutCells l) 161 (0, 0))
  bl : b ≠ l

theorem BOpen.grown {b l g : Nat} {s : ByteArray} {w w' : World} {r : Option Nat} (h : BOpen b l g s w) (k : w.grownBy w' r) (h1 : some b ≠ r) (h2 : some g ≠ r) : BOpen b l g s w' :=
  ⟨(k.block b (blk_lt h.blk) h1).trans h.blk, (k.block g (blk_lt h.byt) h2).trans h.byt, h.big, h.bl, h.bg, h.gl⟩
theorem BShut.grown {b l : Nat} {w w' : World} {r : Option Nat} (h : BShut b l w) (k : w.grownBy w' r) (h1 : some b ≠ r) : BShut b l w' :=
  ⟨(k.block b (blk_lt h.blk) h1).trans h.blk, h.bl⟩
theorem BOpen.lt {b l g : Nat} {s : ByteArray} {w : World} (h : BOpen b l g s w) : b < w.heap.size := blk_lt h.blk
theorem BOpen.glt {b l g : Nat} {s : ByteArray} {w : World} (h : BOpen b l g s w) : g < w.heap.size := blk_lt h.byt
theorem BShut.lt {b l : Nat} {w : World} (h : BShut b l w) : b < w.heap.size := blk_lt h.blk

/-- What a buffer answers is told by: is it open, and its bytes. -/
def Bf (b l g : Nat) (o : Bool) (s : ByteArray) (w : World) : Prop := (o = true ∧ BOpen b l g s w) ∨ (o = false ∧ s = ByteArray.empty ∧ BShut b l w)
theorem Bf.grown {b l g : Nat} {o : Bool} {s : ByteArray} {w w' : World} {r : Option Nat} (h : Bf b l g o s w) (k : w.grownBy w' r) (h1 : some b ≠ r) (h2 : some g ≠ r) : Bf b l g o s w' := by
  rcases h with ⟨h0, h⟩ | ⟨h0, h3, h⟩
  · exact .inl ⟨h0, h.grown k h1 h2⟩
  · exact .inr ⟨h0, h3, h.grown k h1⟩
theorem Bf.c1 {b l g : Nat} {o : Bool} {s : ByteArray} {w : World} (h : Bf b l g o s w) : w.cell? ⟨b, 1, none⟩ = some (.slice (if o then some ⟨g, 0, none⟩ else none) s.size s.size) := by
  rcases h with ⟨rfl, h⟩ | ⟨rfl, rfl, h⟩
  · exact blk_cell h.blk 1
  · exact blk_cell h.blk 1
theorem Bf.c2 {b l g : Nat} {o : Bool} {s : ByteArray} {w : World} (h : Bf b l g o s w) : w.cell? ⟨b, 2, none⟩ = some (.bool o) := by
  rcases h with ⟨rfl, h⟩ | ⟨rfl, rfl, h⟩
  · exact blk_cell h.blk 2
  · exact blk_cell h.blk 2
theorem Bf.big {b l g : Nat} {o : Bool} {s : ByteArray} {w : World} (h : Bf b l g o s w) : s.size ≤ 2147483647 := by
  rcases h with ⟨rfl, h⟩ | ⟨rfl, rfl, h⟩
  · exact h.big
  · exact Nat.zero_le _

theorem len_calls (b l g : Nat) (o : Bool) (s : ByteArray) (w : World) (h : Bf b l g o s w) :
    Calls Tryz.prog 140 #[.pointer (some ⟨b, 0, none⟩)] w fun e w' => e = .returned (.int .i64 s.size) ∧ w = w' := by
  have c1 := h.c1
  obtain ⟨a, ha⟩ : ∃ a, (if o = true then some (⟨g, 0, none⟩ : Addr) else none) = a := ⟨_, rfl⟩
  rw [ha] at c1
  clear h ha
  go_enter Tryz.func140, Tryz.ntmps140
  go_wp2
  go_ret
  exact ⟨rfl, rfl⟩

/-- Do k bytes stand from i on? -/
def thereB (o : Bool) (n : Nat) (i k : Int) : Bool := o && decide (0 ≤ i) && decide (0 ≤ k) && decide (k ≤ n - i)
theorem there_of {o : Bool} {n : Nat} {i k : Int} (h : thereB o n i k = true) : o = true ∧ 0 ≤ i ∧ 0 ≤ k ∧ k ≤ n - i := by
  simpa [thereB, and_assoc] using h
theorem there_is {o : Bool} {n : Nat} {i k : Int} (h : o = true ∧ 0 ≤ i ∧ 0 ≤ k ∧ k ≤ n - i) : thereB o n i k = true := by
  simpa [thereB, and_assoc] using h

theorem has_cells (b : Nat) (o : Bool) (a : Option Addr) (n c : Nat) (i k : Int) (w : World) (c1 : w.cell? ⟨b, 1, none⟩ = some (.slice a n c)) (c2 : w.cell? ⟨b, 2, none⟩ = some (.bool o))
    (hn : n ≤ 2147483647) (hi : i ≤ 9223372036854775807) :
    Calls Tryz.prog 141 #[.pointer (some ⟨b, 0, none⟩), .int .i64 i, .int .i64 k] w fun e w' => e = .returned (.bool (thereB o n i k)) ∧ w = w' := by
  cases o with
  | false =>
    rw [show thereB false n i k = false from rfl]
    go_enter Tryz.func141, Tryz.ntmps141
    go_wp2
    go_ret
    exact ⟨rfl, rfl⟩
  | true =>
    by_cases h1 : 0 ≤ i
    · by_cases h2 : 0 ≤ k
      · by_cases h3 : k ≤ n - i
        · rw [there_is ⟨rfl, h1, h2, h3⟩]
          go_enter Tryz.func141, Tryz.ntmps141
          go_wp2
          go_ret
          exact ⟨rfl, rfl⟩
        · rw [show thereB true n i k = false from by simp [thereB, h3]]
          have h3' : decide (k ≤ (n : Int) - i) = false := by simpa using h3
          go_enter Tryz.func141, Tryz.ntmps141
          go_wp2
          go_ret
          exact ⟨by rw [← h3']; rfl, rfl⟩
      · rw [show thereB true n i k = false from by simp [thereB, h2]]
        have h2' : k < 0 := by omega
        clear h2
        go_enter Tryz.func141, Tryz.ntmps141
        go_wp2
        go_ret
        exact ⟨rfl, rfl⟩
    · rw [show thereB true n i k = false from by simp [thereB, h1]]
      have h1' : i < 0 := by omega
      clear h1
      go_enter Tryz.func141, Tryz.ntmps141
      go_wp2
      go_ret
      exact ⟨rfl, rfl⟩

theorem has_calls (b l g : Nat) (o : Bool) (s : ByteArray) (i k : Int) (w : World) (h : Bf b l g o s w) (hi : i ≤ 9223372036854775807) :
    Calls Tryz.prog 141 #[.pointer (some ⟨b, 0, none⟩), .int .i64 i, .int .i64 k] w fun e w' => e = .returned (.bool (thereB o s.size i k)) ∧ w = w' :=
  has_cells b o _ _ _ i k w h.c1 h.c2 h.big hi

/-- The bytes t laid over s from i on. -/
def putS (s t : ByteArray) (i : Nat) : ByteArray := s.extract 0 i ++ t ++ s.extract (i + t.size) s.size
theorem putS_list (s t : ByteArray) (i : Nat) : (putS s t i).data.toList = s.data.toList.take i ++ t.data.toList ++ s.data.toList.drop (i + t.size) := by
  have e1 : (s.extract (i + t.size) s.size).data.toList = s.data.toList.drop (i + t.size) := by
    rw [Lib.extract_data]
    exact List.take_of_length_le (by rw [List.length_drop, ← Lib.size_eq]; exact Nat.le_refl _)
  have e2 : (s.extract 0 i).data.toList = s.data.toList.take i := by rw [Lib.extract_data]; simp
  unfold putS
  rw [ByteArray.data_append, ByteArray.data_append, Array.toList_append, Array.toList_append, e1, e2]
theorem putS_size (s t : ByteArray) (i : Nat) (h : i + t.size ≤ s.size) : (putS s t i).size = s.size := by
  have e : ∀ x : ByteArray, x.size = x.data.toList.length := Lib.size_eq
  rw [e (putS s t i), putS_list]
  have h1 := e s
  have h2 := e t
  simp only [List.length_append, List.length_take, List.length_drop]
  omega
theorem bys_put (s t : ByteArray) (i : Nat) : bys (putS s t i) = ((bys s).toList.take i ++ Lib.byteCells t.data.toList ++ (bys s).toList.drop (i + t.size)).toArray := by
  unfold bys
  rw [putS_list]
  simp [Lib.byteCells, List.map_take, List.map_drop]

end Go.Proofs.YtjdhlehpoclnjaaGreat.Bu
