/- Texts of one kind, one behind the other: Sg1. -/
import Derived.Deep.AppendLies
import Derived.Deep.LoopGhost
import Derived.Lib.SlBytesRow
import Derived.Test.YtjdhlehpoclnjaaGreatG14
import Derived.Test.YtjdhlehpoclnjaaGreatG32
/- What heads of two formats have in common: a head's bytes are made. -/
namespace Go.Proofs.YtjdhlehpoclnjaaGreat.Am
open Go.ChangeShapes Go.WideShapes Go.ChangeAt Go.RowKit
open Go.Proofs.YtjdhlehpoclnjaaGreat.Le
set_option linter.unusedVariables false

/-- A number of four bytes, the highest first. -/
def b4 (n : Nat) : List UInt8 := [UInt8.ofNat (n / 16777216 % 256), UInt8.ofNat (n / 65536 % 256), UInt8.ofNat (n / 256 % 256), UInt8.ofNat (n % 256)]
theorem b4_len (n : Nat) : (b4 n).length = 4 := rfl
/-- What stands behind k rounds. -/
def hdL (sg : ByteArray) (a b : Nat) : Nat → List UInt8
  | 0 => sg.data.toList
  | 1 => sg.data.toList ++ b4 a
  | _ => sg.data.toList ++ b4 a ++ b4 b
def hdT (sg : ByteArray) (a b : Nat) : ByteArray := ⟨(hdL sg a b 2).toArray⟩
theorem hdT_size (sg : ByteArray) (a b : Nat) : (hdT sg a b).size = sg.size + 8 := by
  rw [Lib.size_eq]
  have : sg.data.toList.length = sg.size := rfl
  simp [hdT, hdL, b4]
theorem infoB : ∃ i, Tryz.prog.info? 5 = some i ∧ i.zero = some (.int .u8 0) ∧ i.size = 1 ∧ i.bytes = 1 := info_parts (by kernel_rfl)
theorem undB : Tryz.prog.underlying 25 = some (.slice 5) := by kernel_rfl
/-- The cells of four bytes. -/
def c4 (n : Nat) : List Value := [.int .u8 ((n : Int) / 16777216 % 256), .int .u8 ((n : Int) / 65536 % 256), .int .u8 ((n : Int) / 256 % 256), .int .u8 ((n : Int) % 256)]
theorem c4_eq (n : Nat) : c4 n = Lib.byteCells (b4 n) := by
  simp [c4, b4, Lib.byteCells, UInt8.toNat_ofNat']
theorem c4_one (n : Nat) : ∀ u ∈ c4 n, u.oneCell' = true := by
  intro u hu
  simp [c4] at hu
  rcases hu with rfl | rfl | rfl | rfl <;> rfl
/-- Four bytes are put behind a row. -/
theorem four_app {B : Nat} {v : Value} {n N : Nat} {l : List UInt8} {w : World} {ops : Array Oper} {rest : List Oper} {o : Oper} {a : Act} {Q : Exit → Act → World → Prop} {s x : Operand} (k : Nat) (h : Mr B v n (Lib.byteCells l) w) (hn : n ≤ 1000) (hN : n + 4 = N)
    (hB : B ≤ w.heap.size) (hgd : o.guard = none) (ho : o.op = .call { callee := .builtin .append, args := #[s, x], argTypes := #[25, 25] }) (hs : a.eval s = v) (hx : a.eval x = .slice (some ⟨w.heap.size, 0, none⟩) 4 4)
    (hh : ∀ v' w', Mr B v' N (Lib.byteCells (l ++ b4 k)) w' → w.grownBy w' v.ownBlock → wpList Tryz.prog ops Q rest (a.put o.dst v') w') : wpList Tryz.prog ops Q (o :: rest) a (w.alloc (.cells (c4 k).toArray 5)) := by
  obtain ⟨i0, hi0, hz0, hz1, hz2⟩ := infoB
  have h1 := h.alloc (.cells (c4 k).toArray 5)
  refine wpList_append_mr (w.alloc (.cells (c4 k).toArray 5)) hgd s x ho B i0 undB hi0 hz0 hz1 hz2 v n (Lib.byteCells l) hs h1 ⟨w.heap.size, 0, none⟩ 4 4 (c4 k) hx rfl ?_ (c4_one k) (by omega) (Nat.le_trans hB (World.grownBy_alloc w _ none).size) (fun v' w' h2 h3 => hh v' w' ?_ ?_)
  · exact World.news_of_block (cs := (c4 k).toArray) (t := 5) (fr := (0, 0)) (heap_alloc_new w _)
  · rw [Lib.byteCells_append, ← c4_eq, ← hN]; exact h2
  · exact gb_trans (World.grownBy_alloc w _ _) h3

set_option maxRecDepth 100000 in
set_option maxHeartbeats 1000000 in
theorem bytes_calls (sg : ByteArray) (hsg : sg.size ≤ 900) (a b : Nat) (ha : a ≤ 100000) (hb : b ≤ 100000) (W : World) :
    Calls Tryz.prog 57 #[.string sg, .int .i64 a, .int .i64 b] W fun e w' => e = .returned (.string (hdT sg a b)) ∧ W.grownBy w' none := by
  have hcv : ∀ u, (convert 9 25 (.string sg)).run Tryz.prog u = .ok (.slice (some ⟨u.heap.size, 0, none⟩) sg.size (grownCap u sg.size 0 5)) (Lib.bytesWorld u 5 sg) := fun u =>
    Lib.run_convert_string_bytes (P := Tryz.prog) u 9 25 5 sg (u := .string) (by kernel_rfl) (by kernel_rfl) (by kernel_rfl)
  have M0 := Lib.hid (Mr.conv W sg (by omega) W.heap.size (Nat.le_refl _))
  have G0 := Lib.hid (⟨rfl, rfl, rfl, by rw [Lib.bytesWorld_size]; omega, fun k hk _ => Lib.bytesWorld_at_old W _ sg k hk⟩ : W.grownBy (Lib.bytesWorld W 5 sg) none)
  obtain ⟨n, hn⟩ : ∃ n, sg.size = n := ⟨_, rfl⟩
  rw [hn] at hcv M0
  have HN := Lib.hid hn
  have HSG := Lib.hid hsg
  have HA := Lib.hid ha
  have HBB := Lib.hid hb
  have hcv := hcv W
  clear hn hsg ha hb
  go_enter Tryz.func57, Tryz.ntmps57
  go_wp2_with fail
  generalize Lib.bytesWorld W 5 sg = w0 at M0 G0 ⊢
  generalize grownCap W n 0 5 = c0 at M0 ⊢
  clear hcv
  go_loopg [7, 15] 3 (fun q bv iv wr => ∃ k : Nat, k ≤ 2 ∧ q = 3 - k ∧ iv = .int .i64 k ∧ Mr W.heap.size bv (n + 4 * k) (Lib.byteCells (hdL sg a b k)) wr ∧ W.grownBy wr none)
  case atStart => exact ⟨0, by omega, rfl, rfl, M0.out, G0.out⟩
  case round =>
    obtain ⟨k, hk, rfl, rfl, M, G⟩ := hrel
    have HM := Lib.hid M
    have HG := Lib.hid G
    clear M G M0 G0
    have hk3 : k = 0 ∨ k = 1 ∨ k = 2 := by omega
    have ix0 : ∀ w : World, (Instr.index 141 (.agg #[.int .i64 (a : Int), .int .i64 (b : Int)]) (.int .i64 0)).run Tryz.prog w = .ok (.int .i64 (a : Int)) w := fun w => by kernel_rfl
    have ix1 : ∀ w : World, (Instr.index 141 (.agg #[.int .i64 (a : Int), .int .i64 (b : Int)]) (.int .i64 1)).run Tryz.prog w = .ok (.int .i64 (b : Int)) w := fun w => by kernel_rfl
    obtain ⟨g7, c7, rfl⟩ : ∃ g c, u7 = .slice (some ⟨g, 0, none⟩) (n + 4 * k) c := by obtain ⟨_, g, cap, _, _, h, _⟩ := HM.out; exact ⟨_, _, h⟩
    have hB := HG.out.size
    have HN9 := Lib.hid (show n ≤ 900 from HN.out ▸ HSG.out)
    have HL := Lib.hid HM.out.lt
    rcases hk3 with rfl | rfl | rfl
    · have M1 := Lib.hid (show Mr W.heap.size (.slice (some ⟨g7, 0, none⟩) (n) c7) (n) (Lib.byteCells (hdL sg a b 0)) wr from HM.out)
      clear HM
      go_wp2_with (at_builtin; refine four_app (N := n + 4 * 1) a M1.out (by have := HN9.out; omega) (by omega) HG.out.size rfl rfl rfl rfl ?_; intro v' w2 M2 G2; have HM2 := Lib.hid M2; have HG2 := Lib.hid G2; clear M2 G2)
      go_wp2
      go_roundg (3 - 1)
      case rel => exact ⟨1, by decide, rfl, rfl, HM2.out, gb_own HG.out (HL.out g7 rfl).1 HG2.out⟩
      case measure => decide
    · have M1 := Lib.hid (show Mr W.heap.size (.slice (some ⟨g7, 0, none⟩) (n + 4) c7) (n + 4) (Lib.byteCells (hdL sg a b 1)) wr from HM.out)
      clear HM
      go_wp2_with (at_builtin; refine four_app (N := n + 4 * 2) b M1.out (by have := HN9.out; omega) (by omega) HG.out.size rfl rfl rfl rfl ?_; intro v' w2 M2 G2; have HM2 := Lib.hid M2; have HG2 := Lib.hid G2; clear M2 G2)
      go_wp2
      go_roundg (3 - 2)
      case rel => exact ⟨2, by decide, rfl, rfl, HM2.out, gb_own HG.out (HL.out g7 rfl).1 HG2.out⟩
      case measure => decide
    · have M1 := Lib.hid (show Mr W.heap.size (.slice (some ⟨g7, 0, none⟩) (n + 8) c7) (n + 8) (Lib.byteCells (hdL sg a b 2)) wr from HM.out)
      clear HM
      have cv : (convert 25 9 (.slice (some ⟨g7, 0, none⟩) (n + 8) c7)).run Tryz.prog wr = .ok (.string (hdT sg a b)) wr := by
        have hc : Lib.Bytes wr g7 0 (hdT sg a b) := by
          intro i hi
          have h := M1.out.cells i (.int .u8 ((hdT sg a b)[i]).toNat) (by
            unfold Lib.byteCells
            rw [List.getElem?_map]
            have : (hdL sg a b 2)[i]? = some (hdT sg a b)[i] := by
              have h2 : i < (hdL sg a b 2).length := by have := hi; rw [Lib.size_eq] at this; simpa [hdT] using this
              rw [List.getElem?_eq_getElem h2]
              rfl
            rw [this]; rfl)
          have hadd : (⟨g7, 0, none⟩ : Addr).add i = ⟨g7, 0 + i, none⟩ := by unfold Addr.add; split <;> simp_all
          rw [hadd] at h
          exact h
        have := Lib.run_convert_whole (P := Tryz.prog) wr 25 5 9 (by kernel_rfl) (by kernel_rfl) (by kernel_rfl) g7 0 (hdT sg a b) hc c7
        rw [hdT_size, HN.out] at this
        exact this
      go_wp2
      go_ret
      exact ⟨rfl, HG.out⟩

end Go.Proofs.YtjdhlehpoclnjaaGreat.Am
