/- Texts of one kind, one behind the other: Sg1. -/
import Derived.Deep.AppendLies
import Derived.Deep.LoopGhost
import Derived.Lib.SlBytesRow
import Derived.Test.YtmhghkgcfgacdaaGreatG11
import Derived.Test.YtmhghkgcfgacdaaGreatG22
/- What heads of two formats have in common: a head's bytes are made. -/
namespace Go.Proofs.YtmhghkgcfgacdaaGreat.Am
open Go.ChangeShapes Go.WideShapes Go.ChangeAt Go.RowKit
open Go.Proofs.YtmhghkgcfgacdaaGreat.Le
set_option linter.unusedVariables false

/-- A number of four bytes, the highest first. -/
def b4 (n : Nat) : List UInt8 := [UInt8.ofNat (n / 16777216 % 256), UInt8.ofNat (n / 65536 % 256), UInt8.ofNat (n / 256 % 256), UInt8.ofNat (n % 256)]
theorem b4_len (n : Nat) : (b4 n).length = 4 := rfl
/-- What stands behind k rounds. -/
def hdL (sg : ByteArray) (a b : Nat) : Nat → List UInt8
  | 0 => sg.data.toList
  | 1 => sg.data.toList ++ b4 a
  | _ => sg.data.toList ++ b4 a ++ b4 b
def hdT (sg : ByteArray) (a b : Nat) : ByteArray := ⟨(hdL sg a b 2).toArray⟩
theorem hdT_size (sg : ByteArray) (a b : Nat) : (hdT sg a b).size = sg.size + 8 := by
  rw [Lib.size_eq]
  have : sg.data.toList.length = sg.size := rfl
  simp [hdT, hdL, b4]
theorem infoB : ∃ i, Tryz.prog.info? 5 = some i ∧ i.zero = some (.int .u8 0) ∧ i.size = 1 ∧ i.bytes = 1 := info_parts (by kernel_rfl)
theorem undB : Tryz.prog.underlying 25 = some (.slice 5) := by kernel_rfl
/-- The cells of four bytes. -/
def c4 (n : Nat) : List Value := [.int .u8 ((n : Int) / 16777216 % 256), .int .u8 ((n : Int) / 65536 % 256), .int .u8 ((n : Int) / 256 % 256), .int .u8 ((n : Int) % 256)]
theorem c4_eq (n : Nat) : c4 n = Lib.byteCells (b4 n) := by
  simp [c4, b4, Lib.byteCells, UInt8.toNat_ofNat']
theorem c4_one (n : Nat) : ∀ u ∈ c4 n, u.oneCell' = true := by
  intro u hu
  simp [c4] at hu
  rcases hu with rfl | rfl | rfl | rfl <;> rfl
/-- Four bytes are put behind a row. -/
theorem four_app {B : Nat} {v : Value} {n N : Nat} {l : List UInt8} {w : World} {ops : Array Oper} {rest : List Oper} {o : Oper} {a : Act} {Q : Exit → Act → World → Prop} {s x : Operand} (k : Nat) (h : Mr B v n (Lib.byteCells l) w) (hn : n ≤ 1000) (hN : n + 4 = N)
    (hB : B ≤ w.heap.size) (hgd : o.guard = none) (ho : o.op = .call { callee := .builtin .append, args := #[s, x], argTypes := #[25, 25] }) (hs : a.eval s = v) (hx : a.eval x = .slice (some ⟨w.heap.size, 0, none⟩) 4 4)
    (hh : ∀ v' w', Mr B v' N (Lib.byteCells (l ++ b4 k)) w' → w.grownBy w' v.ownBlock → wpList Tryz.prog ops Q rest (a.put o.dst v') w') : wpList Tryz.prog ops Q (o :: rest) a (w.alloc (.cells (c4 k).toArray 5)) := by
  obtain ⟨i0, hi0, hz0, hz1, hz2⟩ := infoB
  have h1 := h.alloc (.cells (c4 k).toArray 5)
  refine wpList_append_mr (w.alloc (.cells (c4 k).toArray 5)) hgd s x ho B i0 undB hi0 hz0 hz1 hz2 v n (Lib.byteCells l) hs h1 ⟨w.heap.size, 0, none⟩ 4 4 (c4 k) hx rfl ?_ (c4_one k) (by omega) (Nat.le_trans hB (World.grownBy_alloc w _ none).size) (fun v' w' h2 h3 => hh v' w' ?_ ?_)
  · exact World.news_of_block (cs := (c4 k).toArray) (t := 5) (fr := (0, 0)) (heap_alloc_new w _)
  · rw [Lib.byteCells_append, ← c4_eq, ← hN]; exact h2
  · exact gb_trans (World.grownBy_alloc w _ _) h3

/-- What stands behind the sign and the first k numbers. -/
def hdN (sg : ByteArray) (l : List Nat) (k : Nat) : List UInt8 := sg.data.toList ++ ((l.take k).map b4).flatten
theorem hdN_next (sg : ByteArray) (l : List Nat) (k : Nat) (h : k < l.length) : hdN sg l (k + 1) = hdN sg l k ++ b4 l[k] := by
  unfold hdN
  rw [List.take_add_one, List.getElem?_eq_getElem h, List.map_append, List.flatten_append]
  simp
theorem hdN_len (sg : ByteArray) (l : List Nat) : ∀ k, k ≤ l.length → (hdN sg l k).length = sg.size + 4 * k
  | 0, _ => by
    unfold hdN
    simp only [List.take_zero, List.map_nil, List.flatten_nil, List.append_nil, Nat.mul_zero, Nat.add_zero]
    exact (Lib.size_eq sg).symm
  | k + 1, h => by
    rw [hdN_next sg l k (by omega), List.length_append, hdN_len sg l k (by omega), b4_len]
    omega

set_option maxRecDepth 100000 in
set_option maxHeartbeats 1000000 in
theorem bytes_any (sg : ByteArray) (hsg : sg.size ≤ 900) (l : List Nat) (hl9 : l.length ≤ 9) (hl : ∀ x ∈ l, x ≤ 1000000000) (q off c : Nat) (W : World) (hc : ∀ k (h : k < l.length), W.cell? ⟨q, off + k, none⟩ = some (.int .i64 (l[k] : Nat))) :
    Calls Tryz.prog 39 #[.string sg, .slice (some ⟨q, off, none⟩) l.length c] W fun e w' => e = .returned (.string ⟨(hdN sg l l.length).toArray⟩) ∧ W.grownBy w' none := by
  have hcv : ∀ u, (convert 9 25 (.string sg)).run Tryz.prog u = .ok (.slice (some ⟨u.heap.size, 0, none⟩) sg.size (grownCap u sg.size 0 5)) (Lib.bytesWorld u 5 sg) := fun u =>
    Lib.run_convert_string_bytes (P := Tryz.prog) u 9 25 5 sg (u := .string) (by kernel_rfl) (by kernel_rfl) (by kernel_rfl)
  have M0 := Lib.hid (Mr.conv W sg (by omega) W.heap.size (Nat.le_refl _))
  have G0 := Lib.hid (⟨rfl, rfl, rfl, by rw [Lib.bytesWorld_size]; omega, fun k hk _ => Lib.bytesWorld_at_old W _ sg k hk⟩ : W.grownBy (Lib.bytesWorld W 5 sg) none)
  obtain ⟨n, hn⟩ : ∃ n, sg.size = n := ⟨_, rfl⟩
  rw [hn] at hcv M0
  have HN := Lib.hid hn
  have HSG := Lib.hid hsg
  have HL := Lib.hid hl
  have HC := Lib.hid hc
  have H9 := Lib.hid hl9
  obtain ⟨N, hN⟩ : ∃ N, l.length = N := ⟨_, rfl⟩
  have HNN := Lib.hid hN
  rw [hN]
  have hcv := hcv W
  clear hn hsg hl hc hl9 hN
  go_enter Tryz.func39, Tryz.ntmps39
  go_wp2_with fail
  generalize Lib.bytesWorld W 5 sg = w0 at M0 G0 ⊢
  generalize grownCap W n 0 5 = c0 at M0 ⊢
  clear hcv
  go_loopg [5, 12] N (fun q' bv iv wr => ∃ k : Nat, k ≤ N ∧ q' = N - k ∧ iv = .int .i64 (k : Int) ∧ Mr W.heap.size bv (n + 4 * k) (Lib.byteCells (hdN sg l k)) wr ∧ W.grownBy wr none)
  case atStart => exact ⟨0, by omega, rfl, rfl, by rw [show hdN sg l 0 = sg.data.toList by simp [hdN], Nat.mul_zero, Nat.add_zero]; exact M0.out, G0.out⟩
  case round =>
    obtain ⟨k, hk, rfl, rfl, M, G⟩ := hrel
    have HM := Lib.hid M
    have HG := Lib.hid G
    clear M G M0 G0
    obtain ⟨g7, c7, rfl⟩ : ∃ g c, u5 = .slice (some ⟨g, 0, none⟩) (n + 4 * k) c := by obtain ⟨_, g, cap, _, _, h, _⟩ := HM.out; exact ⟨_, _, h⟩
    have HN9 := Lib.hid (show n ≤ 900 from HN.out ▸ HSG.out)
    have HLT := Lib.hid HM.out.lt
    by_cases hlt : k < N
    · have hkl : k < l.length := by rw [HNN.out]; exact hlt
      have hk9 : k ≤ 9 := by have := H9.out; omega
      have d1 : (k : Int) < (N : Int) := by omega
      have c1 := HG.out.cell (HC.out k hkl) (by simp)
      have hnx := hdN_next sg l k hkl
      have hb := HL.out _ (List.getElem_mem hkl)
      obtain ⟨v, hv⟩ : ∃ v, l[k] = v := ⟨_, rfl⟩
      rw [hv] at c1 hnx hb
      have HNX := Lib.hid hnx
      clear hnx hv hb
      go_wp2_with (at_builtin; refine four_app (N := n + 4 * k + 4) v HM.out (by have := HN9.out; have := H9.out; have := HNN.out; omega) rfl HG.out.size rfl rfl rfl rfl ?_; intro v' w2 M2 G2; have HM2 := Lib.hid M2; have HG2 := Lib.hid G2; clear M2 G2)
      go_wp2
      go_roundg (N - (k + 1))
      case measure => omega
      case rel => exact ⟨k + 1, by omega, rfl, by go_num, by rw [HNX.out, show n + 4 * (k + 1) = n + 4 * k + 4 by omega]; exact HM2.out, gb_own HG.out (HLT.out g7 rfl).1 HG2.out⟩
    · obtain rfl : k = N := by omega
      have d1 : ¬ (k : Int) < (k : Int) := by omega
      have M1 := HM.out
      have hlen := hdN_len sg l k (by rw [HNN.out]; exact Nat.le_refl _)
      rw [HN.out] at hlen
      have cv : (convert 25 9 (.slice (some ⟨g7, 0, none⟩) (n + 4 * k) c7)).run Tryz.prog wr = .ok (.string ⟨(hdN sg l k).toArray⟩) wr := by
        have hcb : Lib.Bytes wr g7 0 ⟨(hdN sg l k).toArray⟩ := by
          intro i hi
          have h2 : i < (hdN sg l k).length := by have := hi; rw [Lib.size_eq] at this; simpa using this
          have h := M1.cells i (.int .u8 (((⟨(hdN sg l k).toArray⟩ : ByteArray)[i]'hi).toNat : Int)) (by
            unfold Lib.byteCells
            rw [List.getElem?_map, List.getElem?_eq_getElem h2]
            rfl)
          have hadd : (⟨g7, 0, none⟩ : Addr).add i = ⟨g7, 0 + i, none⟩ := by unfold Addr.add; split <;> simp_all
          rw [hadd] at h
          exact h
        have := Lib.run_convert_whole (P := Tryz.prog) wr 25 5 9 (by kernel_rfl) (by kernel_rfl) (by kernel_rfl) g7 0 ⟨(hdN sg l k).toArray⟩ hcb c7
        have hsz : (⟨(hdN sg l k).toArray⟩ : ByteArray).size = n + 4 * k := by rw [Lib.size_eq]; exact hlen
        rw [hsz] at this
        exact this
      clear M1 hlen
      go_wp2
      go_ret
      exact ⟨rfl, HG.out⟩
theorem hdN_two (sg : ByteArray) (a b : Nat) : (⟨(hdN sg [a, b] 2).toArray⟩ : ByteArray) = hdT sg a b := by
  simp [hdN, hdT, hdL]
/-- Two numbers that a literal holds. -/
theorem bytes_two (sg : ByteArray) (hsg : sg.size ≤ 900) (a b q : Nat) (ha : a ≤ 100000) (hb : b ≤ 100000) (W : World) (h : W.heap[q]? = some (.cells #[.int .i64 a, .int .i64 b] 3 (0, 0))) :
    Calls Tryz.prog 39 #[.string sg, .slice (some ⟨q, 0, none⟩) 2 2] W fun e w' => e = .returned (.string (hdT sg a b)) ∧ W.grownBy w' none := by
  have K := bytes_any sg hsg [a, b] (show 2 ≤ 9 by decide) (by intro x hx; simp at hx; omega) q 0 2 W (fun k hk => by
    rw [Nat.zero_add, blk_cell h k]
    match k, hk with
    | 0, _ => rfl
    | 1, _ => rfl)
  rw [show ([a, b] : List Nat).length = 2 from rfl, hdN_two] at K
  exact K

end Go.Proofs.YtmhghkgcfgacdaaGreat.Am
