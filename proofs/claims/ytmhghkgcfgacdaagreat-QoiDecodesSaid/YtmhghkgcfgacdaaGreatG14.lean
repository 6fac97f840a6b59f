/- Texts of one kind, one behind the other: Buf3, Buf4, Buf5, Buf6, Ras1. -/
import Derived.Deep.LoopGhost
import Derived.Test.YtmhghkgcfgacdaaGreatG03
import Derived.Test.YtmhghkgcfgacdaaGreatG13
/- Package buf: many bytes are made one, and told. -/
namespace Go.Proofs.YtmhghkgcfgacdaaGreat.Bu
open Go.ChangeShapes Go.WideShapes Go.ChangeAt Go.RowKit
open Go.Proofs.YtmhghkgcfgacdaaGreat.Le
set_option linter.unusedVariables false

/-- So many times one byte. -/
def rep (v : UInt8) (k : Nat) : ByteArray := ⟨(List.replicate k v).toArray⟩
theorem rep_size (v : UInt8) (k : Nat) : (rep v k).size = k := by rw [Lib.size_eq]; simp [rep]
theorem rep_list (v : UInt8) (k : Nat) : (rep v k).data.toList = List.replicate k v := rfl

theorem put_none (s t : ByteArray) (i : Nat) (h : t.size = 0) : putS s t i = s := by
  have et : t.data.toList = [] := List.eq_nil_of_length_eq_zero (by rw [← Lib.size_eq]; exact h)
  apply ByteArray.ext
  apply Array.toList_inj.1
  rw [putS_list, et, h]
  simp

theorem put_step (s : ByteArray) (v : UInt8) (i k : Nat) (h : i + k < s.size) : putS (putS s (rep v k) i) (one v) (i + k) = putS s (rep v (k + 1)) i := by
  have hl := Lib.size_eq s
  apply ByteArray.ext
  apply Array.toList_inj.1
  rw [putS_list, putS_list, putS_list, rep_list, rep_list, rep_size, rep_size, one_size]
  have h1 : (s.data.toList.take i ++ List.replicate k v).length = i + k := by simp [← hl]; omega
  have e1 : (s.data.toList.take i ++ List.replicate k v ++ s.data.toList.drop (i + k)).take (i + k) = s.data.toList.take i ++ List.replicate k v := by
    rw [← h1]; exact List.take_left ..
  have e2 : (s.data.toList.take i ++ List.replicate k v ++ s.data.toList.drop (i + k)).drop (i + k + 1) = s.data.toList.drop (i + (k + 1)) := by
    rw [← List.drop_drop, ← h1, List.drop_left, List.drop_drop, h1, Nat.add_assoc]
  rw [e1, e2, List.replicate_succ']
  simp [one]

theorem byts {b l g : Nat} {s : ByteArray} {w : World} (h : BOpen b l g s w) : Lib.Bytes w g 0 s := fun i hi => by
  rw [Nat.zero_add]
  exact (blk_cell h.byt i).trans (bys_at s i hi)
theorem ext_none (s : ByteArray) (i j : Nat) (h : j ≤ i) : s.extract i j = ByteArray.empty := by
  apply ByteArray.ext
  apply Array.toList_inj.1
  rw [Lib.extract_data, show j - i = 0 from by omega]
  rfl

end Go.Proofs.YtmhghkgcfgacdaaGreat.Bu

/- Package buf: a buffer is let go, once. -/
namespace Go.Proofs.YtmhghkgcfgacdaaGreat.Bu
open Go.ChangeShapes Go.WideShapes Go.ChangeAt Go.RowKit
open Go.Proofs.YtmhghkgcfgacdaaGreat.Le
set_option linter.unusedVariables false

/-- Of what was there, only the blocks S may have turned. -/
structure Tn (w w' : World) (S : List Nat) : Prop where
  os : w'.os = w.os
  tape : w'.tape = w.tape
  output : w'.output = w.output
  size : w.heap.size ≤ w'.heap.size
  block : ∀ k, k < w.heap.size → k ∉ S → w'.heap[k]? = w.heap[k]?
theorem Tn.refl (w : World) (S : List Nat) : Tn w w S := ⟨rfl, rfl, rfl, Nat.le_refl _, fun _ _ _ => rfl⟩
theorem Tn.trans {a b c : World} {S : List Nat} (h : Tn a b S) (k : Tn b c S) : Tn a c S :=
  ⟨k.os.trans h.os, k.tape.trans h.tape, k.output.trans h.output, Nat.le_trans h.size k.size, fun i hi hr => (k.block i (Nat.lt_of_lt_of_le hi h.size) hr).trans (h.block i hi hr)⟩
theorem Tn.mono {a b : World} {S R : List Nat} (h : Tn a b S) (k : ∀ x, x ∈ S → x ∈ R) : Tn a b R := ⟨h.os, h.tape, h.output, h.size, fun i hi hr => h.block i hi (fun hs => hr (k i hs))⟩
theorem Tn.gb {a b : World} {r : Option Nat} {S : List Nat} (h : a.grownBy b r) (k : ∀ x, some x = r → x ∈ S) : Tn a b S := ⟨h.os, h.tape, h.output, h.size, fun i hi hr => h.block i hi (fun e => hr (k i e))⟩
theorem Tn.set (w : World) (b o : Nat) (v : Value) {S : List Nat} (h : b ∈ S) : Tn w (w.setCell ⟨b, o, none⟩ v) S := Tn.gb (gb_set w b o v) (fun x e => by simp at e; exact e ▸ h)
theorem Tn.drew (w : World) (S : List Nat) : Tn w w.drew S := ⟨rfl, rfl, rfl, Nat.le_refl _, fun _ _ _ => rfl⟩
/-- What was made behind w0 may turn. -/
theorem Tn.own {w0 w w' : World} {r : Option Nat} {S : List Nat} (g : w0.grownBy w r) (h : Tn w w' S) (k : ∀ x, x ∈ S → w0.heap.size ≤ x ∨ some x = r) : w0.grownBy w' r :=
  ⟨h.os.trans g.os, h.tape.trans g.tape, h.output.trans g.output, Nat.le_trans g.size h.size, fun i hi hr => (h.block i (Nat.lt_of_lt_of_le hi g.size) (fun hs => by
    rcases k i hs with h1 | h1
    · omega
    · exact hr h1)).trans (g.block i hi hr)⟩

/-- The cells of a buffer. -/
def BC (l : Nat) (v : Value) (o : Bool) (d k : Int) : Array Value := #[.pointer (some ⟨l, 0, none⟩), v, .bool o, .int .u32 d, .int .i32 k, .int .u32 0]
theorem open_bc (l g n : Nat) : openCells l g n = BC l (.slice (some ⟨g, 0, none⟩) n n) true 0 0 := rfl
theorem shut_bc (l : Nat) : shutCells l = BC l (.slice none 0 0) false 1 0 := rfl

theorem blk_other {w : World} {b c o : Nat} {v : Value} {x : Option Obj} (h : w.heap[b]? = x) (hne : b ≠ c) : (w.setCell ⟨c, o, none⟩ v).heap[b]? = x :=
  (show _ = w.heap[b]? from Below.heap_setCell _ _ _ _ hne).trans h

set_option maxRecDepth 100000 in
/-- What the Once does: the bytes are told, and none are had any more. -/
theorem go1_calls (b l g n pb p1 p2 : Nat) (d k : Int) (w : World) (n1 : ¬ b = pb) (n2 : ¬ b = p1) (n3 : ¬ b = p2) (n4 : ¬ p1 = p2) (n5 : ¬ pb = p1) (n6 : ¬ pb = p2)
    (hb : w.heap[b]? = some (.cells (BC l (.slice (some ⟨g, 0, none⟩) n n) true d k) 145 (0, 0)))
    (hp : w.cell? ⟨pb, 0, none⟩ = some (.pointer (some ⟨b, 0, none⟩)))
    (h1 : w.heap[p1]? = some (.cells #[.slice none 0 0] 25 (0, 0))) (h2 : w.heap[p2]? = some (.cells #[.bool false] 4 (0, 0))) :
    Calls Tryz.prog 83 #[.pointer (some ⟨pb, 0, none⟩), .pointer (some ⟨p1, 0, none⟩), .pointer (some ⟨p2, 0, none⟩)] w
      fun e w' => e = .returned (.tuple #[]) ∧ (w'.heap[b]? = some (.cells (BC l (.slice none 0 0) false d k) 145 (0, 0)) ∧
        w'.heap[p1]? = some (.cells #[.slice (some ⟨g, 0, none⟩) n n] 25 (0, 0)) ∧ w'.heap[p2]? = some (.cells #[.bool true] 4 (0, 0))) ∧ Tn w w' [b, p1, p2] := by
  have c1 : w.cell? ⟨b, 1, none⟩ = some (.slice (some ⟨g, 0, none⟩) n n) := blk_cell hb 1
  have c2 : w.cell? ⟨b, 2, none⟩ = some (.bool true) := blk_cell hb 2
  have d1 : w.cell? ⟨p1, 0, none⟩ = some (.slice none 0 0) := blk_cell h1 0
  have d2 : w.cell? ⟨p2, 0, none⟩ = some (.bool false) := blk_cell h2 0
  have f1 := blk_free hb 1
  have f2 := blk_free hb 2
  have f3 := blk_free h1 0
  have f4 := blk_free h2 0
  have HB := Lib.hid hb
  have H1 := Lib.hid h1
  have H2 := Lib.hid h2
  clear hb h1 h2
  have m1 : ¬ p1 = pb := fun e => n5 e.symm
  have m2 : ¬ p2 = pb := fun e => n6 e.symm
  have m3 : ¬ p1 = b := fun e => n2 e.symm
  have m4 : ¬ p2 = b := fun e => n3 e.symm
  have m5 : ¬ p2 = p1 := fun e => n4 e.symm
  go_enter Tryz.func83, Tryz.ntmps83
  go_wp2
  go_region
  all_goals
    go_end0
    refine ⟨rfl, ⟨?_, ?_, ?_⟩, ?_⟩
    · have e1 := blk_set (blk_set (blk_other (blk_other HB.out n2 (o := 0) (v := .slice (some ⟨g, 0, none⟩) n n)) n3 (o := 0) (v := .bool true)) 1 (.slice none 0 0)) 2 (.bool false)
      exact e1
    · exact blk_other (blk_other (blk_other (blk_set H1.out 0 (.slice (some ⟨g, 0, none⟩) n n)) n4) m3) m3
    · exact blk_other (blk_other (blk_set (blk_other H2.out m5) 0 (.bool true)) m4) m4
    · exact (((Tn.set _ _ _ _ (by simp)).trans (Tn.set _ _ _ _ (by simp))).trans (Tn.drew _ _)).trans ((Tn.set _ _ _ _ (by simp)).trans (Tn.set _ _ _ _ (by simp)))

end Go.Proofs.YtmhghkgcfgacdaaGreat.Bu

/- Package buf: freed, handed over, made. -/
namespace Go.Proofs.YtmhghkgcfgacdaaGreat.Bu
open Go.ChangeShapes Go.WideShapes Go.ChangeAt Go.RowKit
open Go.Proofs.YtmhghkgcfgacdaaGreat.Le
set_option linter.unusedVariables false

theorem go2_calls (b l g n pb p1 p2 : Nat) (w : World) (n1 : ¬ b = pb) (n2 : ¬ b = p1) (n3 : ¬ b = p2) (n4 : ¬ p1 = p2) (n5 : ¬ pb = p1) (n6 : ¬ pb = p2)
    (hb : w.heap[b]? = some (.cells (BC l (.slice (some ⟨g, 0, none⟩) n n) true 0 0) 145 (0, 0)))
    (hp : w.cell? ⟨pb, 0, none⟩ = some (.pointer (some ⟨b, 0, none⟩)))
    (h1 : w.heap[p1]? = some (.cells #[.slice none 0 0] 25 (0, 0))) (h2 : w.heap[p2]? = some (.cells #[.bool false] 4 (0, 0))) :
    Calls Tryz.prog 97 #[.pointer (some ⟨b, 3, none⟩), .func (.func 83) #[] #[.pointer (some ⟨pb, 0, none⟩), .pointer (some ⟨p1, 0, none⟩), .pointer (some ⟨p2, 0, none⟩)]] w
      fun e w' => e = .returned (.tuple #[]) ∧ (w'.heap[b]? = some (.cells (BC l (.slice none 0 0) false 1 0) 145 (0, 0)) ∧
        w'.heap[p1]? = some (.cells #[.slice (some ⟨g, 0, none⟩) n n] 25 (0, 0)) ∧ w'.heap[p2]? = some (.cells #[.bool true] 4 (0, 0))) ∧ Tn w w' [b, p1, p2] := by
  have m2 : ¬ p1 = b := fun e => n2 e.symm
  have m3 : ¬ p2 = b := fun e => n3 e.symm
  have L1 : (w.setCell ⟨b, 4, none⟩ (.int .i32 1)).heap[b]? = some (.cells (BC l (.slice (some ⟨g, 0, none⟩) n n) true 0 1) 145 (0, 0)) := blk_set hb 4 _
  have g1 := gb_set w b 4 (.int .i32 1)
  have cp := g1.cell hp (by simpa using fun e => n1 e.symm)
  have c0 : w.cell? ⟨b, 4, none⟩ = some (.int .i32 0) := blk_cell hb 4
  have c1 : (w.setCell ⟨b, 4, none⟩ (.int .i32 1)).cell? ⟨b, 3, none⟩ = some (.int .u32 0) := blk_cell L1 3
  have K1 := Lib.hid (lock_free ⟨b, 4, none⟩ w c0 (blk_free hb 4))
  have K2 := Lib.hid (loadB ⟨b, 3, none⟩ 0 _ c1 rfl)
  have K3 := Lib.hid (go1_calls b l g n pb p1 p2 0 1 _ n1 n2 n3 n4 n5 n6 L1 cp (blk_other h1 m2) (blk_other h2 m3))
  have hnot : ∀ (x : Bool) (w : World), (Op.unary .not (.bool x)).run Tryz.prog w = .ok (.bool (!x)) w := fun _ _ => rfl
  clear cp c0 c1 hp h1 h2 hb L1 g1 n1 n4 n5 n6
  go_enter_defers Tryz.func97, Tryz.ntmps97
  go_wp2_with (first | (go_at_call 107; refine K1.out.mono ?_; rintro e w' ⟨rfl, rfl⟩) | (go_at_call 89; refine K2.out.mono ?_; rintro e w' ⟨rfl, rfl⟩))
  refine K3.out.mono ?_
  rintro e w2 ⟨rfl, ⟨B2, P2, Q2⟩, T2⟩
  have HB2 := Lib.hid B2
  have HP2 := Lib.hid P2
  have HQ2 := Lib.hid Q2
  have HT2 := Lib.hid T2
  clear B2 P2 Q2 T2
  go_wp2
  refine leaves_cons (f := 91) (args := #[.pointer (some ⟨b, 3, none⟩), .bool true]) (by simp) (by simp [go_sem]) ?_
  have HB2d : w2.drew.heap[b]? = _ := HB2.out
  have HP2d : w2.drew.heap[p1]? = _ := HP2.out
  have HQ2d : w2.drew.heap[p2]? = _ := HQ2.out
  refine (storeB_d ⟨b, 3, none⟩ (.int .u32 0) .returning _ rfl (blk_cell HB2.out 3) (blk_free HB2.out 3)).mono ?_
  rintro e u' w'' ⟨rfl, rfl, rfl⟩
  have L3 : (w2.drew.setCell ⟨b, 3, none⟩ (.int .u32 1)).heap[b]? = some (.cells (BC l (.slice none 0 0) false 1 1) 145 (0, 0)) := blk_set HB2d 3 _
  refine leaves_cons (f := 108) (args := #[.pointer (some ⟨b, 4, none⟩)]) (by simp [settle]) (by simp [go_sem]) ?_
  refine (unlock_d ⟨b, 4, none⟩ _ _ (blk_cell L3 4) (blk_free L3 4)).mono ?_
  rintro e u' w'' ⟨rfl, rfl, rfl⟩
  have L4 : ((w2.drew.setCell ⟨b, 3, none⟩ (.int .u32 1)).setCell ⟨b, 4, none⟩ (.int .i32 0)).heap[b]? = some (.cells (BC l (.slice none 0 0) false 1 0) 145 (0, 0)) := blk_set L3 4 _
  have P4 := blk_other (o := 4) (v := .int .i32 0) (blk_other (o := 3) (v := .int .u32 1) HP2d m2) m2
  have Q4 := blk_other (o := 4) (v := .int .i32 0) (blk_other (o := 3) (v := .int .u32 1) HQ2d m3) m3
  have T4 : Tn w ((w2.drew.setCell ⟨b, 3, none⟩ (.int .u32 1)).setCell ⟨b, 4, none⟩ (.int .i32 0)) [b, p1, p2] :=
    ((((Tn.set _ _ _ _ (by simp)).trans HT2.out).trans (Tn.drew _ _)).trans (Tn.set _ _ _ _ (by simp))).trans (Tn.set _ _ _ _ (by simp))
  simp [Leaves, settle, results, Tryz.results97]
  exact ⟨⟨L4, P4, Q4⟩, T4⟩

theorem go3_calls (b l g n pb p1 p2 : Nat) (w : World) (n1 : ¬ b = pb) (n2 : ¬ b = p1) (n3 : ¬ b = p2) (n4 : ¬ p1 = p2) (n5 : ¬ pb = p1) (n6 : ¬ pb = p2)
    (hb : w.heap[b]? = some (.cells (BC l (.slice (some ⟨g, 0, none⟩) n n) true 0 0) 145 (0, 0)))
    (hp : w.cell? ⟨pb, 0, none⟩ = some (.pointer (some ⟨b, 0, none⟩)))
    (h1 : w.heap[p1]? = some (.cells #[.slice none 0 0] 25 (0, 0))) (h2 : w.heap[p2]? = some (.cells #[.bool false] 4 (0, 0))) :
    Calls Tryz.prog 82 #[.pointer (some ⟨b, 3, none⟩), .func (.func 83) #[] #[.pointer (some ⟨pb, 0, none⟩), .pointer (some ⟨p1, 0, none⟩), .pointer (some ⟨p2, 0, none⟩)]] w
      fun e w' => e = .returned (.tuple #[]) ∧ (w'.heap[b]? = some (.cells (BC l (.slice none 0 0) false 1 0) 145 (0, 0)) ∧
        w'.heap[p1]? = some (.cells #[.slice (some ⟨g, 0, none⟩) n n] 25 (0, 0)) ∧ w'.heap[p2]? = some (.cells #[.bool true] 4 (0, 0))) ∧ Tn w w' [b, p1, p2] := by
  have K1 := Lib.hid (go2_calls b l g n pb p1 p2 w n1 n2 n3 n4 n5 n6 hb hp h1 h2)
  have K2 := Lib.hid (loadB ⟨b, 3, none⟩ 0 w (blk_cell hb 3) rfl)
  have hnot : ∀ (x : Bool) (w : World), (Op.unary .not (.bool x)).run Tryz.prog w = .ok (.bool (!x)) w := fun _ _ => rfl
  clear hb hp h1 h2 n1 n2 n3 n4 n5 n6
  go_enter Tryz.func82, Tryz.ntmps82
  go_wp2_with (go_at_call 89; refine K2.out.mono ?_; rintro e w' ⟨rfl, rfl⟩)
  refine K1.out.mono ?_
  rintro e w2 ⟨rfl, B2, T2⟩
  have HB2 := Lib.hid B2
  have HT2 := Lib.hid T2
  clear B2 T2
  go_wp2
  go_end0
  exact ⟨rfl, HB2.out, HT2.out⟩

/-- The Once, used up. -/
theorem go4_calls (b l : Nat) (fv : Value) (w : World) (h : BShut b l w) :
    Calls Tryz.prog 82 #[.pointer (some ⟨b, 3, none⟩), fv] w fun e w' => e = .returned (.tuple #[]) ∧ w = w' := by
  have K2 := Lib.hid (loadB ⟨b, 3, none⟩ 1 w (blk_cell h.blk 3) rfl)
  have hnot : ∀ (x : Bool) (w : World), (Op.unary .not (.bool x)).run Tryz.prog w = .ok (.bool (!x)) w := fun _ _ => rfl
  clear h
  go_enter Tryz.func82, Tryz.ntmps82
  go_wp2_with (go_at_call 89; refine K2.out.mono ?_; rintro e w' ⟨rfl, rfl⟩)
  go_end0
  exact ⟨rfl, rfl⟩

theorem gb_drewN (w : World) (n : Nat) (r : Option Nat) : w.grownBy (w.drewN n) r := ⟨rfl, rfl, rfl, Nat.le_refl _, fun _ _ _ => rfl⟩
theorem size_alloc (w : World) (o : Obj) : (w.alloc o).heap.size = w.heap.size + 1 := by show (w.heap.push o).size = _; simp
theorem blk_at {w : World} {o : Obj} : (w.alloc o).heap[w.heap.size]? = some o := by
  show (w.heap.push _)[w.heap.size]? = _
  rw [Array.getElem?_push_size]
theorem blk_al {w : World} {b : Nat} {x : Obj} (h : w.heap[b]? = some x) (o : Obj) : (w.alloc o).heap[b]? = some x := (Below.heap_alloc w o b (blk_lt h)).trans h

set_option maxRecDepth 100000 in
/-- It is let go now. -/
theorem let_yes (b l g : Nat) (s : ByteArray) (w : World) (h : BOpen b l g s w) :
    Calls Tryz.prog 61 #[.pointer (some ⟨b, 0, none⟩)] w
      fun e w' => e = .returned (.tuple #[.slice (some ⟨g, 0, none⟩) s.size s.size, .bool true]) ∧ BShut b l w' ∧ w.grownBy w' (some b) := by
  have hlt := h.lt
  have hbl := h.bl
  obtain ⟨w3, hw3⟩ : ∃ w3, (((w.alloc (.cells #[.pointer (some ⟨b, 0, none⟩)] 112)).alloc (.cells #[.slice none 0 0] 25)).alloc (.cells #[.bool false] 4)) = w3 := ⟨_, rfl⟩
  have B3 : w3.heap[b]? = some (.cells (BC l (.slice (some ⟨g, 0, none⟩) s.size s.size) true 0 0) 145 (0, 0)) := hw3 ▸ blk_al (blk_al (blk_al h.blk _) _) _
  have hmf : ∀ (fn : Fn) (first cap : Array Value) (w : World), (Instr.makeFunc fn first cap).run Tryz.prog w = .ok (.func fn first cap) w := fun _ _ _ _ => rfl
  have HB3 := Lib.hid B3
  have HW3 := Lib.hid hw3
  obtain ⟨n, hn⟩ : ∃ n, s.size = n := ⟨_, rfl⟩
  rw [hn] at HB3 ⊢
  clear h B3 hn
  clear hw3
  go_enter Tryz.func61, Tryz.ntmps61
  go_wp2_with fail
  obtain ⟨z, hz⟩ : ∃ z, w.heap.size = z := ⟨_, rfl⟩
  have HZ := Lib.hid hz
  refine (go3_calls b l g n w.heap.size (w.heap.size + 1) (w.heap.size + 1 + 1) _ (by omega) (by omega) (by omega) (by omega) (by omega) (by omega) (by rw [HW3.out]; exact HB3.out) ?_ ?_ ?_).mono ?_
  · exact blk_cell (blk_al (blk_al blk_at _) _) 0
  · have h := blk_at (w := w.alloc (.cells #[.pointer (some ⟨b, 0, none⟩)] 112)) (o := .cells #[.slice none 0 0] 25)
    rw [size_alloc] at h
    exact blk_al h _
  · have h := blk_at (w := (w.alloc (.cells #[.pointer (some ⟨b, 0, none⟩)] 112)).alloc (.cells #[.slice none 0 0] 25)) (o := .cells #[.bool false] 4)
    rw [size_alloc, size_alloc] at h
    exact h
  rintro e w2 ⟨rfl, ⟨B2, P2, Q2⟩, T2⟩
  have G : w.grownBy w2 (some b) := T2.own (gb_trans (gb_trans (World.grownBy_alloc _ _ _) (World.grownBy_alloc _ _ _)) (World.grownBy_alloc _ _ _)) (by
    intro x hx
    simp only [List.mem_cons, List.not_mem_nil, or_false] at hx
    rcases hx with rfl | rfl | rfl
    · exact .inr rfl
    · exact .inl (by omega)
    · exact .inl (by omega))
  have p1 := blk_cell P2 0
  have q1 := blk_cell Q2 0
  simp only [List.getElem?_toArray, List.getElem?_cons_zero] at p1 q1
  have HG := Lib.hid G
  have HB := Lib.hid B2
  clear G B2 P2 Q2 T2 hz HW3 HB3
  go_wp2
  go_quiet (fail)
  go_wp2
  go_ret2
  exact ⟨rfl, ⟨HB.out, hbl⟩, gb_trans HG.out (gb_drewN _ _ _)⟩

set_option maxRecDepth 100000 in
/-- It was let go ahead. -/
theorem let_no (b l : Nat) (w : World) (h : BShut b l w) :
    Calls Tryz.prog 61 #[.pointer (some ⟨b, 0, none⟩)] w
      fun e w' => e = .returned (.tuple #[.slice none 0 0, .bool false]) ∧ w.grownBy w' none := by
  have hlt := h.lt
  have hmf : ∀ (fn : Fn) (first cap : Array Value) (w : World), (Instr.makeFunc fn first cap).run Tryz.prog w = .ok (.func fn first cap) w := fun _ _ _ _ => rfl
  have H := Lib.hid h
  clear h
  go_enter Tryz.func61, Tryz.ntmps61
  go_wp2_with fail
  refine (go4_calls b l _ _ (((H.out.grown (World.grownBy_alloc _ _ none) (by simp)).grown (World.grownBy_alloc _ _ none) (by simp)).grown (World.grownBy_alloc _ _ none) (by simp))).mono ?_
  rintro e w' ⟨rfl, rfl⟩
  go_wp2
  go_quiet (fail)
  go_wp2
  go_ret2
  exact ⟨rfl, gb_trans (gb_trans (gb_trans (World.grownBy_alloc _ _ _) (World.grownBy_alloc _ _ _)) (World.grownBy_alloc _ _ _)) (gb_drewN _ _ _)⟩

theorem out_yes (b l g : Nat) (s : ByteArray) (w : World) (h : BOpen b l g s w) :
    Calls Tryz.prog 42 #[.pointer (some ⟨b, 0, none⟩)] w
      fun e w' => e = .returned (.tuple #[.slice (some ⟨g, 0, none⟩) s.size s.size, .bool true]) ∧ BShut b l w' ∧ w.grownBy w' (some b) := by
  -- letGo: 61
  have K := Lib.hid (let_yes b l g s w h)
  clear h
  go_enter Tryz.func42, Tryz.ntmps42
  go_wp2_with fail
  refine K.out.mono ?_
  rintro e w' ⟨rfl, h, g⟩
  have H := Lib.hid h
  have G := Lib.hid g
  clear h g
  go_wp2
  go_ret2
  exact ⟨rfl, H.out, G.out⟩

theorem out_no (b l : Nat) (w : World) (h : BShut b l w) :
    Calls Tryz.prog 42 #[.pointer (some ⟨b, 0, none⟩)] w
      fun e w' => e = .returned (.tuple #[.slice none 0 0, .bool false]) ∧ w.grownBy w' none := by
  -- letGo: 61
  have K := Lib.hid (let_no b l w h)
  clear h
  go_enter Tryz.func42, Tryz.ntmps42
  go_wp2_with fail
  refine K.out.mono ?_
  rintro e w' ⟨rfl, g⟩
  have G := Lib.hid g
  clear g
  go_wp2
  go_ret2
  exact ⟨rfl, G.out⟩

/-- Freed: the ledger has its bytes back. -/
theorem free_yes (b l g : Nat) (s : ByteArray) (x : St) (w : World) (h : BOpen b l g s w) (hl : Led l x.ls w) (ok : x.Ok) :
    Calls Tryz.prog 51 #[.pointer (some ⟨b, 0, none⟩)] w
      fun e w' => e = .returned (.bool true) ∧ (BShut b l w' ∧ Led l (x.give s.size).1.ls w') ∧ Tn w w' [b, l] := by
  -- letGo: 61
  have K := Lib.hid (let_yes b l g s w h)
  have hne : some l ≠ some b := by have := h.bl; simpa using fun e => this e.symm
  have hne' : b ≠ l := h.bl
  have HL := Lib.hid hl
  have OK := Lib.hid ok
  obtain ⟨n, hn⟩ : ∃ n, s.size = n := ⟨_, rfl⟩
  have big : n ≤ 2147483647 := hn ▸ h.big
  rw [hn] at K ⊢
  clear h hl hn ok
  go_enter Tryz.func51, Tryz.ntmps51
  go_wp2_with fail
  refine K.out.mono ?_
  rintro e w2 ⟨rfl, h2, g2⟩
  have H2 := Lib.hid h2
  have G2 := Lib.hid g2
  have c0 : w2.cell? ⟨b, 0, none⟩ = some (.pointer (some ⟨l, 0, none⟩)) := blk_cell h2.blk 0
  have L2 := Lib.hid (HL.out.grown g2 hne)
  clear h2 g2
  go_wp2_with fail
  refine (give_calls l x n w2 L2.out OK.out).mono ?_
  rintro e w3 ⟨rfl, l3, g3⟩
  have L3 := Lib.hid l3
  have G3 := Lib.hid g3
  clear l3 g3
  go_wp2
  go_ret
  refine ⟨rfl, ⟨H2.out.grown G3.out (by simpa using hne'), L3.out⟩, ?_⟩
  exact (Tn.gb G2.out (fun x e => by simp at e; simp [e])).trans (Tn.gb G3.out (fun x e => by simp at e; simp [e]))

theorem free_no (b l : Nat) (w : World) (h : BShut b l w) :
    Calls Tryz.prog 51 #[.pointer (some ⟨b, 0, none⟩)] w fun e w' => e = .returned (.bool false) ∧ w.grownBy w' none := by
  -- letGo: 61
  have K := Lib.hid (let_no b l w h)
  clear h
  go_enter Tryz.func51, Tryz.ntmps51
  go_wp2_with fail
  refine K.out.mono ?_
  rintro e w' ⟨rfl, g⟩
  have G := Lib.hid g
  clear g
  go_wp2
  go_ret
  exact ⟨rfl, G.out⟩

end Go.Proofs.YtmhghkgcfgacdaaGreat.Bu

/- Package buf: a buffer is made. -/
namespace Go.Proofs.YtmhghkgcfgacdaaGreat.Bu
open Go.ChangeShapes Go.WideShapes Go.ChangeAt Go.RowKit
open Go.Proofs.YtmhghkgcfgacdaaGreat.Le
set_option linter.unusedVariables false

theorem row8 : (Tryz.prog.info? 5).map (fun i => (i.zero, i.size, i.bytes)) = some (some (.int .u8 0), 1, 1) := by kernel_rfl

theorem made8 (n : Nat) : madeCells (Value.int .u8 0).cells (n * 1) = bys (rep 0 n) := by
  apply Array.toList_inj.1
  simp [madeCells, bys, Lib.byteCells, rep, Value.cells]
  rw [List.eq_replicate_iff]
  refine ⟨by simp, ?_⟩
  intro v hv
  obtain ⟨j, _, rfl⟩ := List.mem_map.1 hv
  rw [Nat.mod_one]
  rfl

theorem make8 (n : Nat) (hn : n ≤ 2147483647) (w : World) :
    (Instr.makeSlice 25 (.int .i64 (n : Int)) (.int .i64 (n : Int))).run Tryz.prog w = .ok (.slice (some ⟨w.heap.size, 0, none⟩) n n) (w.alloc (.cells (bys (rep 0 n)) 5)) := by
  obtain ⟨i0, hi, hz0, hz1, hz2⟩ := info_parts row8
  have h := run_make (P := Tryz.prog) w 25 5 i0 (.int .u8 0) und8 hi hz0 .i64 .i64 n n (by omega) (by omega) (by rw [hz2]; omega) (by omega)
  rw [hz1] at h
  simp only [Int.toNat_natCast] at h
  rw [made8] at h
  exact h

theorem make_arg (p : Option Addr) (n : Int) (w : World) (h : p = none ∨ n < 0) :
    Calls Tryz.prog 46 #[.pointer p, .int .i64 n] w fun e w' => e = .returned (.tuple #[.pointer none, .int .i64 1]) ∧ w = w' := by
  cases p with
  | none =>
    clear h
    go_enter Tryz.func46, Tryz.ntmps46
    go_wp2
    go_ret2
    exact ⟨rfl, rfl⟩
  | some a =>
    have hn : n < 0 := by simpa using h
    clear h
    go_enter Tryz.func46, Tryz.ntmps46
    go_wp2
    go_ret2
    exact ⟨rfl, rfl⟩

theorem make_spent (l : Nat) (x : St) (n : Int) (w : World) (h : Led l x.ls w) (ok : x.Ok) (n0 : 0 ≤ n) (hr : (x.take n).2 = false) :
    Calls Tryz.prog 46 #[.pointer (some ⟨l, 0, none⟩), .int .i64 n] w
      fun e w' => e = .returned (.tuple #[.pointer none, .int .i64 4]) ∧ Led l (x.take n).1.ls w' ∧ w.grownBy w' (some l) := by
  have K := take_calls l x n w h ok
  rw [hr] at K
  have K' := Lib.hid K
  clear K h ok hr
  go_enter Tryz.func46, Tryz.ntmps46
  go_wp2_with fail
  refine K'.out.mono ?_
  rintro e w2 ⟨rfl, l2, g2⟩
  have L2 := Lib.hid l2
  have G2 := Lib.hid g2
  clear l2 g2
  go_wp2
  go_ret2
  exact ⟨rfl, L2.out, G2.out⟩

theorem make_yes (l : Nat) (x : St) (n : Nat) (w : World) (h : Led l x.ls w) (ok : x.Ok) (hn : n ≤ 2147483647) (hr : (x.take n).2 = true) :
    Calls Tryz.prog 46 #[.pointer (some ⟨l, 0, none⟩), .int .i64 n] w
      fun e w' => ∃ b g, e = .returned (.tuple #[.pointer (some ⟨b, 0, none⟩), .int .i64 0]) ∧ (BOpen b l g (rep 0 n) w' ∧ Led l (x.take n).1.ls w') ∧ w.grownBy w' (some l) ∧ w.heap.size ≤ b ∧ w.heap.size ≤ g := by
  have K := take_calls l x n w h ok
  rw [hr] at K
  have K' := Lib.hid K
  have hlt := h.lt
  have hmk := make8 n hn
  obtain ⟨C, hC⟩ : ∃ C, bys (rep 0 n) = C := ⟨_, rfl⟩
  have HC := Lib.hid hC
  rw [hC] at hmk
  clear K h ok hr hC
  go_enter Tryz.func46, Tryz.ntmps46
  go_wp2_with fail
  refine K'.out.mono ?_
  rintro e w2 ⟨rfl, l2, g2⟩
  have hs2 := g2.size
  have L2 := Lib.hid l2
  have G2 := Lib.hid g2
  clear l2 g2
  go_wp2
  go_ret2
  refine ⟨w2.heap.size + 1, w2.heap.size, rfl, ⟨⟨?_, ?_, by rw [rep_size]; exact hn, by omega, by omega, by omega⟩, ?_⟩, ?_, by omega, by omega⟩
  · have h := blk_at (w := w2.alloc (.cells C 5)) (o := .cells #[.pointer (some ⟨l, 0, none⟩), .slice (some ⟨w2.heap.size, 0, none⟩) n n, .bool true, .int .u32 0, .int .i32 0, .int .u32 0] 145)
    rw [size_alloc] at h
    rw [rep_size]
    exact h
  · rw [HC.out]
    exact blk_al blk_at _
  · exact (L2.out.alloc _).alloc _
  · exact gb_trans (gb_trans G2.out (World.grownBy_alloc _ _ _)) (World.grownBy_alloc _ _ _)

end Go.Proofs.YtmhghkgcfgacdaaGreat.Bu

/- Package raster: sides, sizes, and how a raster is made. -/
namespace Go.Proofs.YtmhghkgcfgacdaaGreat.Ra
open Go.ChangeShapes Go.WideShapes Go.ChangeAt Go.RowKit
open Go.Proofs.YtmhghkgcfgacdaaGreat.Le Go.Proofs.YtmhghkgcfgacdaaGreat.Bu Go.Proofs.YtmhghkgcfgacdaaGreat.Nu
set_option linter.unusedVariables false

/-- May it be a side? -/
def sideB (n : Int) : Bool := decide (1 ≤ n) && decide (n ≤ 16384)
theorem sideB_yes {n : Int} (h0 : 1 ≤ n) (h1 : n ≤ 16384) : sideB n = true := by simp [sideB, h0, h1]
theorem sideB_no {n : Int} (h : n < 1 ∨ 16384 < n) : sideB n = false := by
  simp only [sideB, Bool.and_eq_false_iff, decide_eq_false_iff_not]; omega

theorem side_calls (n : Int) (w : World) : Calls Tryz.prog 66 #[.int .i64 n] w fun e w' => e = .returned (.bool (sideB n)) ∧ w = w' := by
  by_cases h0 : 1 ≤ n
  · by_cases h1 : n ≤ 16384
    · rw [sideB_yes h0 h1]
      go_enter Tryz.func66, Tryz.ntmps66
      go_wp2
      go_ret
      exact ⟨rfl, rfl⟩
    · rw [sideB_no (by omega)]
      have h2 : 16384 < n := by omega
      go_enter Tryz.func66, Tryz.ntmps66
      go_wp2
      go_ret
      exact ⟨rfl, rfl⟩
  · rw [sideB_no (by omega)]
    have h2 : n < 1 := by omega
    go_enter Tryz.func66, Tryz.ntmps66
    go_wp2
    go_ret
    exact ⟨rfl, rfl⟩

/-- Sides that may not be. -/
def badS (a b : Int) : Prop := a < 1 ∨ 16384 < a ∨ b < 1 ∨ 16384 < b

theorem size_no (a b : Int) (w : World) (h : badS a b) : Calls Tryz.prog 44 #[.int .i64 a, .int .i64 b] w fun e w' => e = .returned (.tuple #[.int .i64 0, .bool false]) ∧ w = w' := by
  unfold badS at h
  by_cases ha : a < 1 ∨ 16384 < a
  · have K := side_calls a w
    rw [sideB_no ha] at K
    have K' := Lib.hid K
    clear K h ha
    go_enter Tryz.func44, Tryz.ntmps44
    go_wp2_with fail
    refine K'.out.mono ?_
    rintro e w' ⟨rfl, rfl⟩
    go_wp2
    go_ret2
    exact ⟨rfl, rfl⟩
  · have K := side_calls a w
    rw [sideB_yes (by omega) (by omega)] at K
    have K' := Lib.hid K
    have L := side_calls b w
    rw [sideB_no (by omega)] at L
    have L' := Lib.hid L
    clear K L h ha
    go_enter Tryz.func44, Tryz.ntmps44
    go_wp2_with fail
    refine K'.out.mono ?_
    rintro e w' ⟨rfl, rfl⟩
    go_wp2_with fail
    refine L'.out.mono ?_
    rintro e w' ⟨rfl, rfl⟩
    go_wp2
    go_ret2
    exact ⟨rfl, rfl⟩

theorem allM3 (a b : Nat) (a1 : a ≤ 16384) (b1 : b ≤ 16384) : allM [4, (a : Int), (b : Int)] = (((4 * (a * b) : Nat) : Int), true) := by
  have e1 : mulOk 1 4 = true ∧ mulV 1 4 = 4 := by decide +kernel
  have o2 : mulOk 4 a = true := mulOk_4 (by decide +kernel) (isB_yes (by omega) (by omega)) (by omega)
  have v2 : mulV 4 a = 4 * (a : Int) := mulV_yes o2
  have hle : a * b ≤ 16384 * 16384 := Nat.mul_le_mul a1 b1
  have e : 4 * (a : Int) * (b : Int) = ((4 * (a * b) : Nat) : Int) := by rw [Int.natCast_mul, Int.natCast_mul, ← Int.mul_assoc]; rfl
  have o3 : mulOk (4 * (a : Int)) b = true := mulOk_4 (isB_yes (by omega) (by omega)) (isB_yes (by omega) (by omega)) (by rw [e]; omega)
  have v3 : mulV (4 * (a : Int)) b = ((4 * (a * b) : Nat) : Int) := by rw [mulV_yes o3, e]
  simp only [allM, List.foldl, stepM, if_true, e1.1, e1.2, o2, v2, o3, v3]

set_option maxRecDepth 100000 in
theorem size_yes (a b : Nat) (w : World) (a0 : 1 ≤ a) (a1 : a ≤ 16384) (b0 : 1 ≤ b) (b1 : b ≤ 16384) :
    Calls Tryz.prog 44 #[.int .i64 a, .int .i64 b] w fun e w' => e = .returned (.tuple #[.int .i64 ((4 * (a * b) : Nat) : Int), .bool true]) ∧ w.grownBy w' none := by
  have K := side_calls a w
  rw [sideB_yes (by omega) (by omega)] at K
  have K' := Lib.hid K
  have L := side_calls b w
  rw [sideB_yes (by omega) (by omega)] at L
  have L' := Lib.hid L
  have A := allM3 a b a1 b1
  have P := fun (w : World) (g : Nat) (hc : ∀ j, j < 3 → w.cell? ⟨g, 0 + j, none⟩ = some (.int .i64 ([4, (a : Int), (b : Int)].getD j 0))) => prod15 g 0 3 3 [4, (a : Int), (b : Int)] w rfl (by decide) hc
  simp only [A] at P
  have P' := Lib.hid P
  obtain ⟨n, hn⟩ : ∃ n : Nat, 4 * (a * b) = n := ⟨_, rfl⟩
  rw [hn] at P' ⊢
  clear K L A P hn
  go_enter Tryz.func44, Tryz.ntmps44
  go_wp2_with fail
  refine K'.out.mono ?_
  rintro e w' ⟨rfl, rfl⟩
  go_wp2_with fail
  refine L'.out.mono ?_
  rintro e w' ⟨rfl, rfl⟩
  go_wp2_with fail
  refine (P'.out _ _ ?_).mono ?_
  · intro j hj
    rw [Nat.zero_add]
    refine (blk_cell (blk_new _ _ _) j).trans ?_
    obtain rfl | rfl | rfl : j = 0 ∨ j = 1 ∨ j = 2 := by omega
    all_goals rfl
  rintro e w' ⟨rfl, rfl⟩
  go_wp2
  go_ret2
  exact ⟨rfl, World.grownBy_alloc _ _ _⟩

/-- Block r is a raster of the ledger l, of sides a and b; its buffer is block c. -/
def RC (l c a b : Nat) : Array Value := #[.pointer (some ⟨l, 0, none⟩), .int .i64 a, .int .i64 b, .pointer (some ⟨c, 0, none⟩)]
structure Ro (r l c g a b : Nat) (s : ByteArray) (w : World) : Prop where
  blk : w.heap[r]? = some (.cells (RC l c a b) 114 (0, 0))
  buf : BOpen c l g s w
  sz : s.size = 4 * (a * b)
  rl : r ≠ l
  rc : r ≠ c
  rg : r ≠ g
theorem Ro.lt {r l c g a b : Nat} {s : ByteArray} {w : World} (h : Ro r l c g a b s w) : r < w.heap.size := blk_lt h.blk
theorem Ro.grown {r l c g a b : Nat} {s : ByteArray} {w w' : World} {q : Option Nat} (h : Ro r l c g a b s w) (k : w.grownBy w' q) (h1 : some r ≠ q) (h2 : some c ≠ q) (h3 : some g ≠ q) : Ro r l c g a b s w' :=
  ⟨(k.block r h.lt h1).trans h.blk, h.buf.grown k h2 h3, h.sz, h.rl, h.rc, h.rg⟩

theorem new_arg (a b : Int) (w : World) : Calls Tryz.prog 24 #[.pointer none, .int .i64 a, .int .i64 b] w fun e w' => e = .returned (.tuple #[.pointer none, .int .i64 1]) ∧ w = w' := by
  go_enter Tryz.func24, Tryz.ntmps24
  go_wp2
  go_ret2
  exact ⟨rfl, rfl⟩

theorem new_range (l : Nat) (a b : Int) (w : World) (h : badS a b) : Calls Tryz.prog 24 #[.pointer (some ⟨l, 0, none⟩), .int .i64 a, .int .i64 b] w fun e w' => e = .returned (.tuple #[.pointer none, .int .i64 2]) ∧ w = w' := by
  have K := Lib.hid (size_no a b w h)
  clear h
  go_enter Tryz.func24, Tryz.ntmps24
  go_wp2_with fail
  refine K.out.mono ?_
  rintro e w' ⟨rfl, rfl⟩
  go_wp2
  go_ret2
  exact ⟨rfl, rfl⟩

set_option maxRecDepth 100000 in
theorem new_sides (l : Nat) (x : St) (a b : Nat) (w : World) (h : Led l x.ls w) (a0 : 1 ≤ a) (a1 : a ≤ 16384) (b0 : 1 ≤ b) (b1 : b ≤ 16384) (hs : (x.sides a b).2 = false) :
    Calls Tryz.prog 24 #[.pointer (some ⟨l, 0, none⟩), .int .i64 a, .int .i64 b] w
      fun e w' => e = .returned (.tuple #[.pointer none, .int .i64 4]) ∧ Led l (x.sides a b).1.ls w' ∧ w.grownBy w' (some l) := by
  have K := Lib.hid (size_yes a b w a0 a1 b0 b1)
  have S := fun w => sides_calls l x a b w
  simp only [hs] at S
  have S' := Lib.hid S
  have H := Lib.hid h
  obtain ⟨n, hn⟩ : ∃ n : Nat, 4 * (a * b) = n := ⟨_, rfl⟩
  rw [hn] at K
  obtain ⟨y, hy⟩ : ∃ y, (x.sides a b).1 = y := ⟨_, rfl⟩
  simp only [hy] at S' ⊢
  clear S h hs hn hy
  go_enter Tryz.func24, Tryz.ntmps24
  go_wp2_with fail
  refine K.out.mono ?_
  rintro e w1 ⟨rfl, g1⟩
  have H1 := Lib.hid (H.out.grown g1 (by simp))
  have G1 := Lib.hid g1
  clear g1 H
  go_wp2_with fail
  refine (S'.out _ H1.out).mono ?_
  rintro e w2 ⟨rfl, L2, g2⟩
  have H2 := Lib.hid L2
  have G2 := Lib.hid g2
  clear L2 g2
  go_wp2
  go_ret2
  exact ⟨rfl, H2.out, gb_trans (gb_any G1.out _) G2.out⟩

set_option maxRecDepth 100000 in
theorem new_spent (l : Nat) (x : St) (a b : Nat) (w : World) (h : Led l x.ls w) (ok : x.Ok) (a0 : 1 ≤ a) (a1 : a ≤ 16384) (b0 : 1 ≤ b) (b1 : b ≤ 16384) (hs : x.sides a b = (x, true)) (ht : (x.take (4 * (a * b) : Nat)).2 = false) :
    Calls Tryz.prog 24 #[.pointer (some ⟨l, 0, none⟩), .int .i64 a, .int .i64 b] w
      fun e w' => e = .returned (.tuple #[.pointer none, .int .i64 4]) ∧ Led l (x.take (4 * (a * b) : Nat)).1.ls w' ∧ w.grownBy w' (some l) := by
  have K := Lib.hid (size_yes a b w a0 a1 b0 b1)
  have S := fun w => sides_calls l x a b w
  simp only [hs] at S
  have S' := Lib.hid S
  have H := Lib.hid h
  obtain ⟨n, hn⟩ : ∃ n : Nat, 4 * (a * b) = n := ⟨_, rfl⟩
  rw [hn] at K ht ⊢
  have M := Lib.hid (fun w h => make_spent l x n w h ok (by omega) ht)
  obtain ⟨y, hy⟩ : ∃ y, (x.take (n : Int)).1 = y := ⟨_, rfl⟩
  simp only [hy] at M ⊢
  clear S h hs hn hy ht ok
  go_enter Tryz.func24, Tryz.ntmps24
  go_wp2_with fail
  refine K.out.mono ?_
  rintro e w1 ⟨rfl, g1⟩
  have H1 := Lib.hid (H.out.grown g1 (by simp))
  have G1 := Lib.hid g1
  clear g1 H
  go_wp2_with fail
  refine (S'.out _ H1.out).mono ?_
  rintro e w2 ⟨rfl, L2, g2⟩
  have H2 := Lib.hid L2
  have G2 := Lib.hid g2
  clear L2 g2
  go_wp2_with fail
  refine (M.out _ H2.out).mono ?_
  rintro e w3 ⟨rfl, L3, g3⟩
  have H3 := Lib.hid L3
  have G3 := Lib.hid g3
  clear L3 g3
  go_wp2
  go_ret2
  exact ⟨rfl, H3.out, gb_trans (gb_trans (gb_any G1.out _) G2.out) G3.out⟩

set_option maxRecDepth 100000 in
theorem new_yes (l : Nat) (x : St) (a b : Nat) (w : World) (h : Led l x.ls w) (ok : x.Ok) (a0 : 1 ≤ a) (a1 : a ≤ 16384) (b0 : 1 ≤ b) (b1 : b ≤ 16384) (hs : x.sides a b = (x, true)) (ht : (x.take (4 * (a * b) : Nat)).2 = true) :
    Calls Tryz.prog 24 #[.pointer (some ⟨l, 0, none⟩), .int .i64 a, .int .i64 b] w
      fun e w' => ∃ r c g, e = .returned (.tuple #[.pointer (some ⟨r, 0, none⟩), .int .i64 0]) ∧ Ro r l c g a b (rep 0 (4 * (a * b))) w' ∧ Led l (x.take (4 * (a * b) : Nat)).1.ls w' ∧ w.grownBy w' (some l) ∧ w.heap.size ≤ r ∧ w.heap.size ≤ c ∧ w.heap.size ≤ g := by
  have K := Lib.hid (size_yes a b w a0 a1 b0 b1)
  have S := fun w => sides_calls l x a b w
  simp only [hs] at S
  have S' := Lib.hid S
  have H := Lib.hid h
  have hlt := h.lt
  have hle : a * b ≤ 16384 * 16384 := Nat.mul_le_mul a1 b1
  obtain ⟨n, hn⟩ : ∃ n : Nat, 4 * (a * b) = n := ⟨_, rfl⟩
  have HN := Lib.hid hn
  rw [hn] at K ht ⊢
  have M := Lib.hid (fun w h => make_yes l x n w h ok (by omega) ht)
  obtain ⟨y, hy⟩ : ∃ y, (x.take (n : Int)).1 = y := ⟨_, rfl⟩
  simp only [hy] at M ⊢
  clear S h hs hn hy ht ok hle
  go_enter Tryz.func24, Tryz.ntmps24
  go_wp2_with fail
  refine K.out.mono ?_
  rintro e w1 ⟨rfl, g1⟩
  have H1 := Lib.hid (H.out.grown g1 (by simp))
  have z1 := g1.size
  have G1 := Lib.hid g1
  clear g1 H
  go_wp2_with fail
  refine (S'.out _ H1.out).mono ?_
  rintro e w2 ⟨rfl, L2, g2⟩
  have H2 := Lib.hid L2
  have z2 := g2.size
  have G2 := Lib.hid g2
  clear L2 g2
  go_wp2_with fail
  refine (M.out _ H2.out).mono ?_
  rintro e w3 ⟨c, g, rfl, ⟨B3, L3⟩, g3, hc, hg⟩
  have H3 := Lib.hid L3
  have HB := Lib.hid B3
  have z3 := g3.size
  have c3 := B3.lt
  have q3 := B3.glt
  have G3 := Lib.hid g3
  clear L3 g3 B3
  go_wp2
  go_ret2
  exact ⟨w3.heap.size, c, g, rfl, ⟨blk_at, HB.out.grown (World.grownBy_alloc _ _ none) (by simp) (by simp), by rw [rep_size, HN.out], by omega, by omega, by omega⟩,
    H3.out.alloc _, gb_trans (gb_trans (gb_trans (gb_any G1.out _) G2.out) G3.out) (World.grownBy_alloc _ _ _), by omega, by omega, by omega⟩

end Go.Proofs.YtmhghkgcfgacdaaGreat.Ra
