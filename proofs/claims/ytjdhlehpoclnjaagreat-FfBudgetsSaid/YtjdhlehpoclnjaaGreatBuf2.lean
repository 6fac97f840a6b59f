/- Package buf: bytes that are written, and told. -/
import Derived.Test.YtjdhlehpoclnjaaGreatBuf1
namespace Go.Proofs.YtjdhlehpoclnjaaGreat.Bu
open Go.ChangeShapes Go.WideShapes Go.ChangeAt Go.RowKit
open Go.Proofs.YtjdhlehpoclnjaaGreat.Le
set_option linter.unusedVariables false

/-- One byte, as a text. -/
def one (v : UInt8) : ByteArray := ⟨#[v]⟩
theorem one_size (v : UInt8) : (one v).size = 1 := rfl

theorem bys_set (s : ByteArray) (i : Nat) (v : UInt8) (h : i < s.size) : (bys s).setIfInBounds i (.int .u8 (v.toNat : Int)) = bys (putS s (one v) i) := by
  rw [bys_put]
  apply Array.toList_inj.1
  have hl : i < (bys s).toList.length := by
    have := bys_size s
    simpa using this ▸ h
  rw [Array.toList_setIfInBounds, List.set_eq_take_append_cons_drop, if_pos hl]
  simp [one, Lib.byteCells]
  rfl

theorem BOpen.put {b l g : Nat} {s : ByteArray} {w w' : World} (h : BOpen b l g s w) (k : w.grownBy w' (some g)) (t : ByteArray) (i : Nat) (hi : i + t.size ≤ s.size)
    (hb : w'.heap[g]? = some (.cells (bys (putS s t i)) 5 (0, 0))) : BOpen b l g (putS s t i) w' := by
  refine ⟨?_, hb, by rw [putS_size _ _ _ hi]; exact h.big, h.bl, h.bg, h.gl⟩
  rw [putS_size _ _ _ hi]
  exact (k.block b (blk_lt h.blk) (by have := h.bg; simpa using this)).trans h.blk

theorem put_no (b l g : Nat) (o : Bool) (s t : ByteArray) (i : Int) (w : World) (h : Bf b l g o s w) (hi : i ≤ 9223372036854775807) (hno : thereB o s.size i t.size = false) :
    Calls Tryz.prog 132 #[.pointer (some ⟨b, 0, none⟩), .int .i64 i, .string t] w fun e w' => e = .returned (.bool false) ∧ w = w' := by
  have K := has_calls b l g o s i t.size w h hi
  rw [hno] at K
  have K' := Lib.hid K
  clear K h hno
  go_enter Tryz.func132, Tryz.ntmps132
  go_wp2_with (go_at_call 141; refine K'.out.mono ?_; rintro e w' ⟨rfl, rfl⟩)
  go_ret
  exact ⟨rfl, rfl⟩

theorem elem8 : (Tryz.prog.info? 5).map (·.size) = some 1 := by kernel_rfl
theorem size8 (w : World) : (Go.sizeOf 5).run Tryz.prog w = .ok 1 w := by
  have h := elem8
  cases hq : Tryz.prog.info? 5 with
  | none => simp [hq] at h
  | some i =>
    have hi : i.size = 1 := by simpa [hq] using h
    simp [sizeOf, typeInfo, hq, hi]
theorem und8 : Tryz.prog.underlying 25 = some (.slice 5) := by kernel_rfl

theorem setRow_gb (w : World) (g : Nat) (C : Array Value) : w.grownBy (w.setRow g C) (some g) :=
  ⟨rfl, rfl, rfl, by simp [World.setRow], fun k hk hr => setRow_other w g k C (fun e => hr (by rw [e]))⟩

/-- 's[i:]' of a slice of bytes, i not above its length. -/
theorem slice_from (w : World) (g n : Nat) (i : Nat) (h : i ≤ n) :
    (Instr.slice 25 (.slice (some ⟨g, 0, none⟩) n n) (some (.int .i64 (i : Int))) none none).run Tryz.prog w = .ok (.slice (some ⟨g, if n = i then 0 else i, none⟩) (n - i) (n - i)) w := by
  have ht' : Tryz.prog.underlying 25 = some (.slice (Tryz.prog.elem 25)) := by kernel_rfl
  have he : Tryz.prog.elem 25 = 5 := by kernel_rfl
  have hs := size8 w
  by_cases h0 : n = i
  · subst h0
    simp [Instr.slice, run_underlying ht', Instr.sliceBounds, run_sliceBound, he, hs, Result.andThen, Addr.add]
  · simp [Instr.slice, run_underlying ht', Instr.sliceBounds, run_sliceBound, he, hs, Result.andThen, Addr.add, h0, h]
    exact fun e => e.symm

/-- 's[i:i+k]' of one. -/
theorem slice_part (w : World) (g n : Nat) (i k : Nat) (h : i + k ≤ n) :
    (Instr.slice 25 (.slice (some ⟨g, 0, none⟩) n n) (some (.int .i64 (i : Int))) (some (.int .i64 ((i : Int) + k))) none).run Tryz.prog w = .ok (.slice (some ⟨g, if n = i then 0 else i, none⟩) k (n - i)) w := by
  have ht' : Tryz.prog.underlying 25 = some (.slice (Tryz.prog.elem 25)) := by kernel_rfl
  have he : Tryz.prog.elem 25 = 5 := by kernel_rfl
  have hs := size8 w
  rw [show ((i : Int) + k) = ((i + k : Nat) : Int) from by omega, run_slice_lh w _ _ _ _ ht' .i64 .i64 _ _ (by omega) (by omega) (by omega), he, hs]
  by_cases h0 : n = i
  · subst h0
    simp [Result.andThen, sliced]
    omega
  · simp [Result.andThen, sliced, Addr.add, h0]
    exact ⟨fun e => e.symm, by omega⟩

set_option maxRecDepth 100000 in
theorem put_yes (b l g : Nat) (s t : ByteArray) (i : Nat) (w : World) (h : BOpen b l g s w) (hi : i + t.size ≤ s.size) :
    Calls Tryz.prog 132 #[.pointer (some ⟨b, 0, none⟩), .int .i64 i, .string t] w
      fun e w' => e = .returned (.bool true) ∧ BOpen b l g (putS s t i) w' ∧ w.grownBy w' (some g) := by
  have K := has_calls b l g true s i t.size w (.inl ⟨rfl, h⟩) (by have := h.big; omega)
  rw [there_is ⟨rfl, by omega, by omega, by omega⟩] at K
  have K' := Lib.hid K
  have c1 : w.cell? ⟨b, 1, none⟩ = some (.slice (some ⟨g, 0, none⟩) s.size s.size) := blk_cell h.blk 1
  have hsl := slice_from w g s.size i (by omega)
  have hbig := h.big
  by_cases h0 : t.size = 0
  · have e0 : putS s t i = s := by
      have et : t.data.toList = [] := List.eq_nil_of_length_eq_zero (by rw [← Lib.size_eq]; exact h0)
      apply ByteArray.ext
      apply Array.toList_inj.1
      rw [putS_list, et, h0]
      simp
    rw [e0]
    obtain ⟨o, ho⟩ : ∃ o, (if s.size = i then 0 else i) = o := ⟨_, rfl⟩
    rw [ho] at hsl
    have hcp := Lib.run_copy_empty_string (P := Tryz.prog) w 25 9 3 5 (some ⟨g, o, none⟩) (s.size - i) (s.size - i) t und8 (by kernel_rfl) h0
    have H := Lib.hid h
    clear K h e0 h0 ho
    go_enter Tryz.func132, Tryz.ntmps132
    go_wp2_with (go_at_call 141; refine K'.out.mono ?_; rintro e w' ⟨rfl, rfl⟩)
    go_ret
    exact ⟨rfl, H.out, gb_refl _ _⟩
  · have hne : ¬ s.size = i := by omega
    rw [if_neg hne] at hsl
    have hcp := Lib.run_copy_row_string (P := Tryz.prog) w 25 9 3 5 g i (s.size - i) (s.size - i) t (bys s) 5 und8 elem8 h.byt (by omega) (by rw [bys_size]; exact hi)
    rw [← bys_put] at hcp
    have P := Lib.hid (h.put (setRow_gb w g (bys (putS s t i))) t i hi (setRow_heap _ _ _ _ _ _ h.byt))
    obtain ⟨C, hC⟩ : ∃ C, bys (putS s t i) = C := ⟨_, rfl⟩
    rw [hC] at hcp P
    clear K h hC hne h0
    go_enter Tryz.func132, Tryz.ntmps132
    go_wp2_with (go_at_call 141; refine K'.out.mono ?_; rintro e w' ⟨rfl, rfl⟩)
    go_ret
    exact ⟨rfl, P.out, setRow_gb _ _ _⟩

end Go.Proofs.YtjdhlehpoclnjaaGreat.Bu
