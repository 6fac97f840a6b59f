/- Package src: further, bytes, the byte at the place, a place, a window, why a reading failed, a new source. -/
import Derived.Test.YtfhcefglefkakaaGreatDoorSrc1
namespace Go.Proofs.YtfhcefglefkakaaGreatDoor.Sr
open Go.ChangeShapes Go.WideShapes Go.ChangeAt Go.RowKit
open Go.Proofs.YtfhcefglefkakaaGreatDoor.Le
set_option linter.unusedVariables false

/-- Does a reading of n bytes come? -/
def rdB (x : St) (p t : Nat) (n : Int) : Bool := (x.work 1).2 && canB p t n
theorem can_of {p t : Nat} {n : Int} (h : canB p t n = true) : 0 ≤ n ∧ n ≤ (t : Int) - p := by simpa [canB] using h
theorem rd_of {x : St} {p t : Nat} {n : Int} (h : rdB x p t n = true) : (x.work 1).2 = true ∧ 0 ≤ n ∧ n ≤ (t : Int) - p := by
  unfold rdB at h
  rw [Bool.and_eq_true] at h
  exact ⟨h.1, can_of h.2⟩

set_option maxRecDepth 100000 in
theorem skip_no (b l : Nat) (s : ByteArray) (p f t : Nat) (x : St) (n : Int) (w : World) (h : So b l s p f t w) (hl : Led l x.ls w) (ok : x.Ok) (hn : rdB x p t n = false) :
    Calls Tryz.prog 81 #[.pointer (some ⟨b, 0, none⟩), .int .i64 n] w
      fun e w' => e = .returned (.bool false) ∧ (So b l s p f t w' ∧ Led l (x.work 1).1.ls w') ∧ w.grownBy w' (some l) := by
  have K := reach_calls b l s p f t x n w h hl ok
  rw [show ((x.work 1).2 && canB p t n) = false from hn] at K
  have hK := Lib.hid K
  have H := Lib.hid h
  clear K h hl ok hn
  go_enter Tryz.func81, Tryz.ntmps81
  go_wp2_with fail
  refine hK.out.mono ?_
  rintro e w1 ⟨rfl, L, g⟩
  have HL := Lib.hid L
  have HG := Lib.hid g
  clear L g
  go_wp2
  go_ret
  exact ⟨rfl, ⟨H.out.grown HG.out (by simpa using H.out.bl), HL.out⟩, HG.out⟩

set_option maxRecDepth 100000 in
theorem skip_yes (b l : Nat) (s : ByteArray) (p f t n : Nat) (x : St) (w : World) (h : So b l s p f t w) (hl : Led l x.ls w) (ok : x.Ok) (hn : rdB x p t n = true) :
    Calls Tryz.prog 81 #[.pointer (some ⟨b, 0, none⟩), .int .i64 n] w
      fun e w' => e = .returned (.bool true) ∧ (So b l s (p + n) f t w' ∧ Led l (x.work 1).1.ls w') ∧ Tn w w' [b, l] := by
  have K := reach_calls b l s p f t x n w h hl ok
  rw [show ((x.work 1).2 && canB p t n) = true from hn] at K
  obtain ⟨_, n0, n1⟩ := rd_of hn
  have hK := Lib.hid K
  have H := Lib.hid h
  have h1 := h.pt
  have h2 := h.ts
  have h3 := h.big
  have h4 := h.fp
  clear K h hl ok hn
  go_enter Tryz.func81, Tryz.ntmps81
  go_wp2_with fail
  refine hK.out.mono ?_
  rintro e w1 ⟨rfl, L, g⟩
  have H1 := H.out.grown g (by simpa using H.out.bl)
  have c2 := H1.c2
  have z2 := H1.free 2
  have HL := Lib.hid L
  have HG := Lib.hid g
  have HS := Lib.hid H1
  clear L g H1
  go_wp2
  go_ret
  exact ⟨rfl, ⟨HS.out.set (p + n) (by omega) (by omega), HL.out.oth HS.out.bl.symm⟩, (Tn.gb HG.out (by simp)).trans (Tn.set _ _ _ _ (by simp))⟩

theorem cut_at (s : ByteArray) (p n : Nat) (h : p + n ≤ s.size) (w : World) :
    (Instr.slice 9 (.string s) (some (.int .i64 (p : Int))) (some (.int .i64 ((p : Int) + n))) none).run Tryz.prog w = .ok (.string (s.extract p (p + n))) w := by
  have ht' : Tryz.prog.underlying 9 = some .string := by kernel_rfl
  have e : ((p : Int) + n).toNat = p + n := by omega
  simp [Instr.slice, run_underlying ht', Instr.sliceBounds, run_sliceBound, Result.andThen, show (p : Int) + n ≤ s.size by omega, show (0 : Int) ≤ p + n by omega, e]
  rw [run_sliceBound _ _ _ _ _ (by omega) (by omega)]
  simp

set_option maxRecDepth 100000 in
theorem take_no (b l : Nat) (s : ByteArray) (p f t : Nat) (x : St) (n : Int) (w : World) (h : So b l s p f t w) (hl : Led l x.ls w) (ok : x.Ok) (hn : rdB x p t n = false) :
    Calls Tryz.prog 50 #[.pointer (some ⟨b, 0, none⟩), .int .i64 n] w
      fun e w' => e = .returned (.tuple #[.string ⟨#[]⟩, .bool false]) ∧ (So b l s p f t w' ∧ Led l (x.work 1).1.ls w') ∧ w.grownBy w' (some l) := by
  have hK := Lib.hid (skip_no b l s p f t x n w h hl ok hn)
  have c2 := h.c2
  clear h hl ok hn
  go_enter Tryz.func50, Tryz.ntmps50
  go_wp2_with fail
  refine hK.out.mono ?_
  rintro e w1 ⟨rfl, L, g⟩
  have HL := Lib.hid L
  have HG := Lib.hid g
  clear L g
  go_wp2
  go_ret2
  exact ⟨rfl, HL.out, HG.out⟩

set_option maxRecDepth 100000 in
theorem take_yes (b l : Nat) (s : ByteArray) (p f t n : Nat) (x : St) (w : World) (h : So b l s p f t w) (hl : Led l x.ls w) (ok : x.Ok) (hn : rdB x p t n = true) :
    Calls Tryz.prog 50 #[.pointer (some ⟨b, 0, none⟩), .int .i64 n] w
      fun e w' => e = .returned (.tuple #[.string (s.extract p (p + n)), .bool true]) ∧ (So b l s (p + n) f t w' ∧ Led l (x.work 1).1.ls w') ∧ Tn w w' [b, l] := by
  have hK := Lib.hid (skip_yes b l s p f t n x w h hl ok hn)
  obtain ⟨_, n0, n1⟩ := rd_of hn
  have c2 := h.c2
  have h1 := h.pt
  have h2 := h.ts
  have h3 := h.big
  have hc := cut_at s p n (by omega)
  clear h hl ok hn
  go_enter Tryz.func50, Tryz.ntmps50
  go_wp2_with fail
  refine hK.out.mono ?_
  rintro e w1 ⟨rfl, L, g⟩
  have d1 := L.1.c1
  have d2 : w1.cell? ⟨b, 2, none⟩ = some (.int .i64 ((p : Int) + n)) := by
    have := L.1.c2
    rwa [show ((p + n : Nat) : Int) = (p : Int) + n from by omega] at this
  have HL := Lib.hid L
  have HG := Lib.hid g
  clear L g
  go_wp2_with fail
  go_quiet (fail)
  go_wp2
  go_ret2
  exact ⟨rfl, ⟨HL.out.1.grown (gb_drewN _ _ none) (by simp), HL.out.2⟩, HG.out.trans (Tn.gb (gb_drewN _ _ none) (by simp))⟩

theorem byte_in (s : ByteArray) (p : Nat) (h : p < s.size) : (s[p].toNat : Int) ≤ 255 := by have := s[p].toNat_lt; omega

theorem seek_no (b l : Nat) (s : ByteArray) (p f t : Nat) (q : Int) (w : World) (h : So b l s p f t w) (hq : q < f ∨ t < q) :
    Calls Tryz.prog 155 #[.pointer (some ⟨b, 0, none⟩), .int .i64 q] w fun e w' => e = .returned (.bool false) ∧ w = w' := by
  have d3 := h.c3
  have d4 := h.c4
  clear h
  by_cases h1 : q < f
  · clear hq
    go_enter Tryz.func155, Tryz.ntmps155
    go_wp2
    go_ret
    exact ⟨rfl, rfl⟩
  · have h2 : (t : Int) < q := by omega
    clear hq
    go_enter Tryz.func155, Tryz.ntmps155
    go_wp2
    go_ret
    exact ⟨rfl, rfl⟩
theorem seek_yes (b l : Nat) (s : ByteArray) (p f t q : Nat) (w : World) (h : So b l s p f t w) (h1 : f ≤ q) (h2 : q ≤ t) :
    Calls Tryz.prog 155 #[.pointer (some ⟨b, 0, none⟩), .int .i64 q] w fun e w' => e = .returned (.bool true) ∧ So b l s q f t w' ∧ w.grownBy w' (some b) := by
  have d3 := h.c3
  have d4 := h.c4
  have d2 := h.c2
  have z2 := h.free 2
  have H := Lib.hid h
  clear h
  go_enter Tryz.func155, Tryz.ntmps155
  go_wp2
  go_ret
  exact ⟨rfl, H.out.set q h1 h2, gb_set _ _ _ _⟩

end Go.Proofs.YtfhcefglefkakaaGreatDoor.Sr
