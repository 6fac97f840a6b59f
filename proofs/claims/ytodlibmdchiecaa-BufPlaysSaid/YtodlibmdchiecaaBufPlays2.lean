/- One call of a buffer, and of the document's: reading. -/
import Derived.Test.YtodlibmdchiecaaBufPlays1
import Derived.BigQuiet
import Derived.Deep.QuietTactic
import Derived.Deep.RegionWith
namespace Go.Proofs.Ytodlibmdchiecaa.Bu
open Go.ChangeShapes Go.WideShapes Go.ChangeAt Go.RowKit
open Go.Proofs.Ytodlibmdchiecaa.Le
set_option linter.unusedVariables false

theorem Tn.on {W w w' : World} {S : List Nat} {r : Option Nat} (h : Tn W w S) (g : w.grownBy w' r) (k : ∀ x, some x = r → W.heap.size ≤ x ∨ x ∈ S) : Tn W w' S :=
  ⟨g.os.trans h.os, g.tape.trans h.tape, g.output.trans h.output, Nat.le_trans h.size g.size, fun i hi hr => (g.block i (Nat.lt_of_lt_of_le hi h.size) (fun e => by
    rcases k i e with h1 | h1
    · omega
    · exact hr h1)).trans (h.block i hi hr)⟩

/-- The buffer and the document's state of it. -/
structure PB (W : World) (b l g : Nat) (o : Bool) (s : ByteArray) (y : Int) (w : World) : Prop where
  bf : Bf b l g o s w
  kp : Keeps l 100 y w
  sy : (s.size : Int) ≤ y
  grown : Tn W w [b, l, g]
/-- Both went on alike. -/
def Went (W : World) (b l g : Nat) (e : Ending) (w' : World) : Prop := ∃ s o y, e = .returned (.tuple #[.agg #[.string s, .bool o, .int .i64 y], .bool true]) ∧ PB W b l g o s y w'

section
variable {W w w' : World} {b l g : Nat} {o : Bool} {s : ByteArray} {y : Int}
theorem PB.go (I : PB W b l g o s y w) (k : w.grownBy w' none) : PB W b l g o s y w' := ⟨I.bf.grown k (by simp) (by simp), I.kp.grown k (by simp), I.sy, I.grown.on k (fun x e => by simp at e)⟩
theorem PB.al (I : PB W b l g o s y w) (x : Obj) : PB W b l g o s y (w.alloc x) := I.go (World.grownBy_alloc w x none)
theorem PB.y100 (I : PB W b l g o s y w) : y ≤ 100 := by
  obtain ⟨pk, h1, h2, h3, _⟩ := I.kp
  omega
theorem PB.blt (I : PB W b l g o s y w) : b < w.heap.size := by
  rcases I.bf with ⟨_, h⟩ | ⟨_, _, h⟩
  · exact h.lt
  · exact h.lt
theorem PB.op (I : PB W b l g true s y w) : BOpen b l g s w := by
  rcases I.bf with ⟨_, h⟩ | ⟨h, _⟩
  · exact h
  · cases h
/-- A block that was there ahead stays, whatever new blocks hold. -/
theorem PB.set (I : PB W b l g o s y w) (n k : Nat) (v : Value) (h1 : b ≠ n) (h2 : g ≠ n) (h3 : l ≠ n) (h4 : W.heap.size ≤ n) : PB W b l g o s y (w.setCell ⟨n, k, none⟩ v) := by
  have gs := gb_set w n k v
  exact ⟨I.bf.grown gs (by simpa using h1) (by simpa using h2), I.kp.grown gs (by simpa using h3), I.sy, I.grown.on gs (fun x e => by simp at e; exact .inl (e ▸ h4))⟩
theorem PB.drew (I : PB W b l g o s y w) : PB W b l g o s y w.drew := I.go (gb_drew w none)
theorem PB.drewN (I : PB W b l g o s y w) (n : Nat) : PB W b l g o s y (w.drewN n) := I.go (gb_drewN w n none)
end

theorem PB.wrote {W w w' : World} {b l g : Nat} {s s' : ByteArray} {y : Int} (I : PB W b l g true s y w) (BO : BOpen b l g s' w') (k : w.grownBy w' (some g)) (e : s'.size = s.size) : PB W b l g true s' y w' :=
  ⟨.inl ⟨rfl, BO⟩, I.kp.grown k (by have := I.op.gl; simpa using fun e => this e.symm), by rw [e]; exact I.sy, I.grown.on k (fun x e => by simp at e; exact .inr (by simp [e]))⟩

theorem PB.sh {W w : World} {b l g : Nat} {s : ByteArray} {y : Int} (I : PB W b l g false s y w) : BShut b l w := by
  rcases I.bf with ⟨h, _⟩ | ⟨_, _, h⟩
  · cases h
  · exact h
theorem PB.shutS {W w : World} {b l g : Nat} {s : ByteArray} {y : Int} (I : PB W b l g false s y w) : s = ByteArray.empty := by
  rcases I.bf with ⟨h, _⟩ | ⟨_, h, _⟩
  · cases h
  · exact h
theorem PB.freed {W w w' : World} {b l g : Nat} {s : ByteArray} {y : Int} (I : PB W b l g true s y w) (BS : BShut b l w') (KK : Keeps l 100 (y - s.size) w') (T : Tn w w' [b, l]) :
    PB W b l g false ByteArray.empty (y - s.size) w' :=
  ⟨.inr ⟨rfl, rfl, BS⟩, KK, by have := I.sy; show ((0 : Nat) : Int) ≤ _; omega, I.grown.trans (T.mono (fun x hx => by
    simp only [List.mem_cons, List.not_mem_nil, or_false] at hx ⊢
    rcases hx with rfl | rfl <;> simp))⟩
/-- Handed over: its bytes count on. -/
theorem PB.handed {W w w' : World} {b l g : Nat} {s : ByteArray} {y : Int} (I : PB W b l g true s y w) (BS : BShut b l w') (k : w.grownBy w' (some b)) : PB W b l g false ByteArray.empty y w' :=
  ⟨.inr ⟨rfl, rfl, BS⟩, I.kp.grown k (by have := I.op.bl; simpa using fun e => this e.symm), by have := I.sy; show ((0 : Nat) : Int) ≤ _; omega, I.grown.on k (fun x e => by simp at e; exact .inr (by simp [e]))⟩
/-- Three cells of a block become others, and nothing else turns. -/
theorem PB.put3 {W w : World} {b l g : Nat} {o : Bool} {s : ByteArray} {y : Int} (I : PB W b l g o s y w) (n : Nat) (u v x : Value) (h1 : b < n) (h2 : g < n) (h3 : l < n) (h4 : W.heap.size ≤ n) :
    PB W b l g o s y (((w.setCell ⟨n, 0, none⟩ u).setCell ⟨n, 1, none⟩ v).setCell ⟨n, 2, none⟩ x) :=
  ((I.set n 0 u (by omega) (by omega) (by omega) h4).set n 1 v (by omega) (by omega) (by omega) h4).set n 2 x (by omega) (by omega) (by omega) h4

set_option maxRecDepth 100000 in
theorem one1_no {W w : World} {b l g : Nat} {o : Bool} {s : ByteArray} {y : Int} (I : PB W b l g o s y w) (i n v : Int) (S : ByteArray) (hi : i ≤ 9223372036854775807)
    (hb : b < w.heap.size) (hg : g < w.heap.size) (hl : l < w.heap.size) (hW : W.heap.size ≤ w.heap.size) (hno : thereB o s.size i 1 = false) :
    Calls Try.prog 10 #[.pointer (some ⟨b, 0, none⟩), .agg #[.string s, .bool o, .int .i64 y], .agg #[.int .i64 1, .int .i64 i, .int .i64 n, .int .u8 v, .string S]] w (Went W b l g) := by
  have big := I.bf.big
  have HI := Lib.hid I
  have KT := fun w => there_calls s o y i 1 w big hi
  rw [hno] at KT
  have HT := Lib.hid KT
  have HN := Lib.hid hno
  clear KT hno I
  go_enter Try.func10, Try.ntmps10
  go_wp2_with fail
  have I3 := Lib.hid (((HI.out.al (.cells #[.string s, .bool o, .int .i64 y] 33)).al (.cells #[.int .i64 1, .int .i64 i, .int .i64 n, .int .u8 v, .string S] 35)).al (.cells #[.string ⟨#[]⟩, .bool false, .int .i64 0] 33))
  refine (at_no b l g o s i _ I3.out.bf hi HN.out).mono ?_
  rintro e w' ⟨rfl, rfl⟩
  go_wp2_with fail
  refine (HT.out _).mono ?_
  rintro e w4 ⟨rfl, g4⟩
  have bx := old3a g4 (by simp)
  have br := old3c g4 (by simp)
  have c0 := blk_cell bx 0
  have c1 := blk_cell bx 1
  have c2 := blk_cell bx 2
  have d0 := blk_cell br 0
  have d1 := blk_cell br 1
  have d2 := blk_cell br 2
  simp only [List.getElem?_toArray, List.getElem?_cons_succ, List.getElem?_cons_zero] at c0 c1 c2 d0 d1 d2
  have fr := fun o => blk_free br o
  have I4 := Lib.hid ((I3.out.go g4).put3 (w.heap.size + 1 + 1) (.string s) (.bool o) (.int .i64 y) (by omega) (by omega) (by omega) (by omega))
  clear g4 I3 HI HT bx br
  go_wp2
  exact bodyPost_ret (v := .tuple #[.agg #[.string s, .bool o, .int .i64 y], .bool true]) (by simp [results, Try.results10, go_sem, d0, d1, d2]) rfl ⟨s, o, y, rfl, I4.out⟩

set_option maxRecDepth 100000 in
theorem one1_yes {W w : World} {b l g : Nat} {s : ByteArray} {y : Int} (I : PB W b l g true s y w) (i : Nat) (n v : Int) (S : ByteArray)
    (hb : b < w.heap.size) (hg : g < w.heap.size) (hl : l < w.heap.size) (hW : W.heap.size ≤ w.heap.size) (hi : i < s.size) :
    Calls Try.prog 10 #[.pointer (some ⟨b, 0, none⟩), .agg #[.string s, .bool true, .int .i64 y], .agg #[.int .i64 1, .int .i64 i, .int .i64 n, .int .u8 v, .string S]] w (Went W b l g) := by
  have big := I.bf.big
  have HI := Lib.hid I
  have KT := fun w => there_calls s true y i 1 w big (by omega)
  rw [there_is ⟨rfl, by omega, by omega, by omega⟩] at KT
  have HT := Lib.hid KT
  clear KT I
  go_enter Try.func10, Try.ntmps10
  go_wp2_with fail
  have I3 := Lib.hid (((HI.out.al (.cells #[.string s, .bool true, .int .i64 y] 33)).al (.cells #[.int .i64 1, .int .i64 i, .int .i64 n, .int .u8 v, .string S] 35)).al (.cells #[.string ⟨#[]⟩, .bool false, .int .i64 0] 33))
  refine (at_yes b l g s i _ I3.out.op hi).mono ?_
  rintro e w' ⟨rfl, rfl⟩
  go_wp2_with fail
  refine (HT.out _).mono ?_
  rintro e w4 ⟨rfl, g4⟩
  have bx := old3a g4 (by simp)
  have bo := old3b g4 (by simp)
  have br := old3c g4 (by simp)
  have c0 := blk_cell bx 0
  have c1 := blk_cell bx 1
  have c2 := blk_cell bx 2
  have p1 := blk_cell bo 1
  have d0 := blk_cell br 0
  have d1 := blk_cell br 1
  have d2 := blk_cell br 2
  simp only [List.getElem?_toArray, List.getElem?_cons_succ, List.getElem?_cons_zero] at c0 c1 c2 d0 d1 d2 p1
  have fr := fun o => blk_free br o
  have I4 := Lib.hid (((I3.out.go g4).put3 (w.heap.size + 1 + 1) (.string s) (.bool true) (.int .i64 y) (by omega) (by omega) (by omega) (by omega)))
  clear g4 I3 HI HT bx br bo
  go_wp2
  go_region
  go_wp2
  exact bodyPost_ret (v := .tuple #[.agg #[.string s, .bool true, .int .i64 y], .bool true]) (by simp [results, Try.results10, go_sem, d0, d1, d2]) rfl ⟨s, true, y, rfl, I4.out.drew⟩

set_option maxRecDepth 100000 in
theorem one5_no {W w : World} {b l g : Nat} {o : Bool} {s : ByteArray} {y : Int} (I : PB W b l g o s y w) (i n v : Int) (S : ByteArray) (hi : i ≤ 9223372036854775807)
    (hb : b < w.heap.size) (hg : g < w.heap.size) (hl : l < w.heap.size) (hW : W.heap.size ≤ w.heap.size) (hno : thereB o s.size i n = false) :
    Calls Try.prog 10 #[.pointer (some ⟨b, 0, none⟩), .agg #[.string s, .bool o, .int .i64 y], .agg #[.int .i64 5, .int .i64 i, .int .i64 n, .int .u8 v, .string S]] w (Went W b l g) := by
  have big := I.bf.big
  have HI := Lib.hid I
  have KT := fun w => there_calls s o y i n w big hi
  rw [hno] at KT
  have HT := Lib.hid KT
  have HN := Lib.hid hno
  clear KT hno I
  go_enter Try.func10, Try.ntmps10
  go_wp2_with fail
  have I3 := Lib.hid (((HI.out.al (.cells #[.string s, .bool o, .int .i64 y] 33)).al (.cells #[.int .i64 5, .int .i64 i, .int .i64 n, .int .u8 v, .string S] 35)).al (.cells #[.string ⟨#[]⟩, .bool false, .int .i64 0] 33))
  refine (get_no b l g o s i n _ I3.out.bf hi HN.out).mono ?_
  rintro e w' ⟨rfl, rfl⟩
  go_wp2_with fail
  refine (HT.out _).mono ?_
  rintro e w4 ⟨rfl, g4⟩
  have bx := old3a g4 (by simp)
  have br := old3c g4 (by simp)
  have c0 := blk_cell bx 0
  have c1 := blk_cell bx 1
  have c2 := blk_cell bx 2
  have d0 := blk_cell br 0
  have d1 := blk_cell br 1
  have d2 := blk_cell br 2
  simp only [List.getElem?_toArray, List.getElem?_cons_succ, List.getElem?_cons_zero] at c0 c1 c2 d0 d1 d2
  have fr := fun o => blk_free br o
  have I4 := Lib.hid ((I3.out.go g4).put3 (w.heap.size + 1 + 1) (.string s) (.bool o) (.int .i64 y) (by omega) (by omega) (by omega) (by omega))
  clear g4 I3 HI HT bx br
  go_wp2
  exact bodyPost_ret (v := .tuple #[.agg #[.string s, .bool o, .int .i64 y], .bool true]) (by simp [results, Try.results10, go_sem, d0, d1, d2]) rfl ⟨s, o, y, rfl, I4.out⟩

/-- A part of a text. -/
theorem str_part (s : ByteArray) (i n : Nat) (h : i + n ≤ s.size) (w : World) :
    (Instr.slice 9 (.string s) (some (.int .i64 (i : Int))) (some (.int .i64 ((i : Int) + n))) none).run Try.prog w = .ok (.string (s.extract i (i + n))) w := by
  have ht' : Try.prog.underlying 9 = some .string := by kernel_rfl
  have e : ((i : Int) + n).toNat = i + n := by omega
  simp [Instr.slice, run_underlying ht', Instr.sliceBounds, run_sliceBound, Result.andThen, show (i : Int) + n ≤ s.size by omega, show (0 : Int) ≤ i + n by omega, e]
  rw [run_sliceBound _ _ _ _ _ (by omega) (by omega)]
  simp

set_option maxRecDepth 100000 in
theorem one5_yes {W w : World} {b l g : Nat} {s : ByteArray} {y : Int} (I : PB W b l g true s y w) (i n : Nat) (v : Int) (S : ByteArray)
    (hb : b < w.heap.size) (hg : g < w.heap.size) (hl : l < w.heap.size) (hW : W.heap.size ≤ w.heap.size) (hi : i + n ≤ s.size) :
    Calls Try.prog 10 #[.pointer (some ⟨b, 0, none⟩), .agg #[.string s, .bool true, .int .i64 y], .agg #[.int .i64 5, .int .i64 i, .int .i64 n, .int .u8 v, .string S]] w (Went W b l g) := by
  have big := I.bf.big
  have HI := Lib.hid I
  have KT := fun w => there_calls s true y i n w big (by omega)
  rw [there_is ⟨rfl, by omega, by omega, by omega⟩] at KT
  have HT := Lib.hid KT
  have hsl := str_part s i n hi
  have HG := Lib.hid (fun w h => get_yes b l g s i n w h hi)
  obtain ⟨z, hz⟩ : ∃ z, s.extract i (i + n) = z := ⟨_, rfl⟩
  rw [hz] at hsl HG
  have hnn : (0 : Int) ≤ (i : Int) + n := by omega
  clear KT I hz
  go_enter Try.func10, Try.ntmps10
  go_wp2_with fail
  have I3 := Lib.hid (((HI.out.al (.cells #[.string s, .bool true, .int .i64 y] 33)).al (.cells #[.int .i64 5, .int .i64 i, .int .i64 n, .int .u8 v, .string S] 35)).al (.cells #[.string ⟨#[]⟩, .bool false, .int .i64 0] 33))
  refine (HG.out _ I3.out.op).mono ?_
  rintro e w' ⟨rfl, rfl⟩
  go_wp2_with fail
  refine (HT.out _).mono ?_
  rintro e w4 ⟨rfl, g4⟩
  have bx := old3a g4 (by simp)
  have bo := old3b g4 (by simp)
  have br := old3c g4 (by simp)
  have c0 := blk_cell bx 0
  have c1 := blk_cell bx 1
  have c2 := blk_cell bx 2
  have p1 := blk_cell bo 1
  have p2 := blk_cell bo 2
  have d0 := blk_cell br 0
  have d1 := blk_cell br 1
  have d2 := blk_cell br 2
  simp only [List.getElem?_toArray, List.getElem?_cons_succ, List.getElem?_cons_zero] at c0 c1 c2 d0 d1 d2 p1 p2
  have fr := fun o => blk_free br o
  have I4 := Lib.hid (((I3.out.go g4).put3 (w.heap.size + 1 + 1) (.string s) (.bool true) (.int .i64 y) (by omega) (by omega) (by omega) (by omega)))
  have hw : IntKind.i64.wrap ((i : Int) + n) = (i : Int) + n := IntWalk.i64_in _ (by omega)
  clear g4 I3 HI HT bx br bo HG hnn
  go_wp2
  go_region
  go_wp2
  exact bodyPost_ret (v := .tuple #[.agg #[.string s, .bool true, .int .i64 y], .bool true]) (by simp [results, Try.results10, go_sem, d0, d1, d2]) rfl ⟨s, true, y, rfl, I4.out.drew⟩

set_option maxRecDepth 100000 in
/-- No call at all. -/
theorem one_none {W w : World} {b l g : Nat} {o : Bool} {s : ByteArray} {y : Int} (I : PB W b l g o s y w) (k i n v : Int) (S : ByteArray)
    (hb : b < w.heap.size) (hg : g < w.heap.size) (hl : l < w.heap.size) (hW : W.heap.size ≤ w.heap.size) (hk : k < 1 ∨ 7 < k) :
    Calls Try.prog 10 #[.pointer (some ⟨b, 0, none⟩), .agg #[.string s, .bool o, .int .i64 y], .agg #[.int .i64 k, .int .i64 i, .int .i64 n, .int .u8 v, .string S]] w (Went W b l g) := by
  have HI := Lib.hid I
  have e1 : (k == 1) = false := by simp; omega
  have e2 : (k == 2) = false := by simp; omega
  have e3 : (k == 3) = false := by simp; omega
  have e4 : (k == 4) = false := by simp; omega
  have e5 : (k == 5) = false := by simp; omega
  have e6 : (k == 6) = false := by simp; omega
  have e7 : (k == 7) = false := by simp; omega
  clear I hk
  go_enter Try.func10, Try.ntmps10
  go_wp2
  exact bodyPost_ret (v := .tuple #[.agg #[.string s, .bool o, .int .i64 y], .bool true]) (by simp [results, Try.results10, go_sem]) rfl ⟨s, o, y, rfl, ((HI.out.al _).al _).al _⟩

end Go.Proofs.Ytodlibmdchiecaa.Bu
