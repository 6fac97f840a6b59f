/- Images: their bytes in memory; what is right; which are the same. -/
import Derived.Test.YthgpjdnppknghaaRas4
import Derived.Laws.BytesString
import Derived.Laws.AppendOwn
import Derived.WalkLawsBesides
namespace Go.Proofs.Ythgpjdnppknghaa.Ra
open Go.ChangeShapes Go.WideShapes Go.ChangeAt Go.RowKit
open Go.Proofs.Ythgpjdnppknghaa.Le Go.Proofs.Ythgpjdnppknghaa.Bu Go.Proofs.Ythgpjdnppknghaa.Nu
set_option linter.unusedVariables false

/-- The bytes S lie in a slice that begins at a. -/
def Bx (a : Option Addr) (S : ByteArray) (w : World) : Prop := S.size = 0 ∨ ∃ b off, a = some ⟨b, off, none⟩ ∧ Lib.Bytes w b off S
theorem Bx.grown {a : Option Addr} {S : ByteArray} {w w' : World} (h : Bx a S w) (k : w.grownBy w' none) : Bx a S w' := by
  rcases h with h | ⟨b, off, h1, h2⟩
  · exact .inl h
  · exact .inr ⟨b, off, h1, fun i hi => k.cell (h2 i hi) (by simp)⟩

theorem empty_of {S : ByteArray} (h : S.size = 0) : S = ByteArray.empty := by
  apply ByteArray.ext
  apply Array.toList_inj.1
  have : S.data.toList.length = 0 := by simpa using h
  rw [List.eq_nil_of_length_eq_zero this]
  rfl

theorem conv_zero (w : World) (p : Option Addr) (c : Nat) : (convert 46 9 (.slice p 0 c)).run Try.prog w = .ok (.string ByteArray.empty) w := by
  rw [run_convert_bytes_string w 46 9 5 _ 0 c und8 (by kernel_rfl) (by kernel_rfl)]
  cases p <;> simp [Conv.bytesToString, loadCells]
  all_goals rfl

theorem conv_bx {a : Option Addr} {S : ByteArray} {w : World} (h : Bx a S w) (c : Nat) : (convert 46 9 (.slice a S.size c)).run Try.prog w = .ok (.string S) w := by
  rcases h with h | ⟨b, off, rfl, h2⟩
  · rw [h, empty_of h]
    exact conv_zero w a c
  · exact Lib.run_convert_whole (P := Try.prog) w 46 5 9 und8 (by kernel_rfl) (by kernel_rfl) b off S h2 c

theorem eq_calls (a1 a2 : Option Addr) (c1 c2 : Nat) (S1 S2 : ByteArray) (w : World) (h1 : Bx a1 S1 w) (h2 : Bx a2 S2 w) :
    Calls Try.prog 58 #[.slice a1 S1.size c1, .slice a2 S2.size c2] w fun e w' => e = .returned (.bool (S1.toList == S2.toList)) ∧ w = w' := by
  have k1 := conv_bx h1 c1
  have k2 := conv_bx h2 c2
  obtain ⟨n1, hn1⟩ : ∃ n, S1.size = n := ⟨_, rfl⟩
  obtain ⟨n2, hn2⟩ : ∃ n, S2.size = n := ⟨_, rfl⟩
  rw [hn1] at k1 ⊢
  rw [hn2] at k2 ⊢
  clear h1 h2 hn1 hn2
  go_enter Try.func58, Try.ntmps58
  go_wp2
  go_ret
  exact ⟨rfl, rfl⟩

set_option maxRecDepth 100000 in
theorem clone_nil (w : World) : Calls Try.prog 59 #[.slice none 0 0] w fun e w' => e = .returned (.slice none 0 0) ∧ w = w' := by
  have hnil : ∀ w : World, (binOp .eql 46 (.slice none 0 0) (.slice none 0 0)).run Try.prog w = .ok (.bool true) w := fun w => Lib.run_eql_slice_nil (P := Try.prog) w 46 5 none 0 0 0 0 und8
  go_enter Try.func59, Try.ntmps59
  go_wp2
  go_ret
  exact ⟨rfl, rfl⟩

theorem bys_len (S : ByteArray) : (bys S).toList.length = S.size := by
  have := bys_size S
  simpa using this
theorem bys_one (S : ByteArray) : ∀ u ∈ (bys S).toList, u.oneCell' = true := by
  intro u hu
  simp only [bys, Lib.byteCells, List.mem_map] at hu
  obtain ⟨x, _, rfl⟩ := hu
  rfl

set_option maxRecDepth 100000 in
theorem clone_some (ad : Addr) (c : Nat) (S : ByteArray) (w : World) (h : Bx (some ad) S w) (hs : S.size ≤ 2000) :
    Calls Try.prog 59 #[.slice (some ad) S.size c] w fun e w' => ∃ a' c', e = .returned (.slice a' S.size c') ∧ Bx a' S w' ∧ w.grownBy w' none ∧ ∀ ad, a' = some ad → w.heap.size ≤ ad.block := by
  have hnil : ∀ (w : World) (n c : Nat), (binOp .eql 46 (.slice (some ad) n c) (.slice none 0 0)).run Try.prog w = .ok (.bool false) w := fun w n c => Lib.run_eql_slice_nil (P := Try.prog) w 46 5 (some ad) n c 0 0 und8
  obtain ⟨i0, hi, hz0, hz1, hz2⟩ := info_parts row8
  have HI0 := Lib.hid hi
  have HZ0 := Lib.hid hz0
  have HZ1 := Lib.hid hz1
  have HZ2 := Lib.hid hz2
  have HROW := Lib.hid (show (w.alloc (.cells #[] 5)).ownsRow w.heap.size 5 1 (.slice (some ⟨w.heap.size, 0, none⟩) 0 0) 0 [] from World.ownsRow_made w #[] 0 (Nat.le_refl _) (by unfold maxLen; omega) (by simp))
  have HN := Lib.hid (show ∀ j u, (bys S).toList[j]? = some u → (w.alloc (.cells #[] 5)).cell? (ad.add j) = some u from by
    intro j u hu
    have hj : j < S.size := by
      rw [← bys_len]
      exact (List.getElem?_eq_some_iff.1 hu).1
    rcases h.grown (World.grownBy_alloc w (.cells #[] 5) none) with h0 | ⟨b, off, e, hb⟩
    · omega
    · cases e
      rw [add_plain, hb j hj, ← hu]
      have := bys_at S j hj
      simpa using this.symm)
  have HL := Lib.hid (bys_len S)
  have HO := Lib.hid (bys_one S)
  obtain ⟨n, hn⟩ : ∃ n, S.size = n := ⟨_, rfl⟩
  have HNN := Lib.hid hn
  rw [hn] at hs ⊢
  clear hi hz0 hz1 hz2 h hn
  go_enter Try.func59, Try.ntmps59
  go_wp2_with (at_builtin; refine wpList_append_own _ rfl (.tmp 5) (.tmp 6) 46 rfl w.heap.size 5 i0 (.int .u8 0) 1 1 und8 HI0.out HZ0.out HZ1.out HZ2.out rfl (by decide) _ 0 [] rfl HROW.out ad n c (bys S).toList rfl ?c1 HN.out HO.out ?c2 ?c3 ?c4 ?_)
  case c1 => rw [HL.out, HNN.out]; omega
  case c2 => unfold maxLen; omega
  case c3 => omega
  case c4 => rw [size_alloc]; omega
  intro v' w8 hown hgr hnil
  have HW := Lib.hid hown
  have HG := Lib.hid (gb_new (World.grownBy_alloc w (.cells #[] 5) none) (Nat.le_refl _) hgr)
  clear hown hgr hnil
  obtain ⟨h1, ⟨hv, hz⟩ | ⟨g, cap, cur, hv, hb, hg⟩⟩ := HW.out
  · have hn0 : n = 0 := by omega
    subst hv
    subst hn0
    clear h1 hz
    go_wp2
    go_ret
    exact ⟨none, 0, rfl, .inl HNN.out, HG.out, fun _ h => by cases h⟩
  · try rw [Nat.zero_add] at hv
    subst hv
    clear h1 hb hg
    go_wp2
    go_ret
    refine ⟨some ⟨g, 0, none⟩, cap, rfl, .inr ⟨g, 0, rfl, fun i hi => ?_⟩, HG.out, fun ad h => by cases h; exact (HW.out.lt g rfl).1⟩
    have h := HW.out.cells (g := g) rfl i (.int .u8 (S[i].toNat : Int)) (by
      have := bys_at S i hi
      simpa using this)
    rw [add_plain] at h
    exact h

end Go.Proofs.Ythgpjdnppknghaa.Ra
