/- Package src: the six numbers. -/
import Derived.Test.YtfhcefglefkakaaGreatDoorSrc4
namespace Go.Proofs.YtfhcefglefkakaaGreatDoor.Sr
open Go.ChangeShapes Go.WideShapes Go.ChangeAt Go.RowKit
open Go.Proofs.YtfhcefglefkakaaGreatDoor.Le
set_option linter.unusedVariables false

theorem part_size (s : ByteArray) (p n : Nat) (h : p + n ≤ s.size) : (s.extract p (p + n)).size = n := by
  rw [ByteArray.size_extract]
  omega

theorem read8_no (b : Nat) (n : Int) (o : Bool) (w : World) (K : World → Prop)
    (hT : Calls Tryz.prog 50 #[.pointer (some ⟨b, 0, none⟩), .int .i64 n] w fun e w' => e = .returned (.tuple #[.string ⟨#[]⟩, .bool false]) ∧ K w') :
    Calls Tryz.prog 150 #[.pointer (some ⟨b, 0, none⟩), .int .i64 n, .bool o] w
      fun e w' => e = .returned (.tuple #[.int .i64 0, .bool false]) ∧ K w' := by
  have hK := Lib.hid hT
  clear hT
  go_enter Tryz.func150, Tryz.ntmps150
  go_wp2_with fail
  refine hK.out.mono ?_
  rintro e w1 ⟨rfl, hw⟩
  have HW := Lib.hid hw
  clear hw
  go_wp2
  go_ret2
  exact ⟨rfl, HW.out⟩

set_option maxRecDepth 100000 in
theorem u8_yes (b l : Nat) (s : ByteArray) (p f t : Nat) (x : St) (w : World) (h : So b l s p f t w) (hl : Led l x.ls w) (ok : x.Ok) (hn : rdB x p t 1 = true) :
    Calls Tryz.prog 121 #[.pointer (some ⟨b, 0, none⟩)] w
      fun e w' => e = .returned (.tuple #[.int .i64 (numV false (s.extract p (p + 1))), .bool true]) ∧ (So b l s (p + 1) f t w' ∧ Led l (x.work 1).1.ls w') ∧ Tn w w' [b, l] := by
  have hz := rd_of hn
  have h2 := h.ts
  have hT := (read8_go b l (s.extract p (p + 1)) 1 false w _ (part_size s p 1 (by omega)) (by decide) (take_yes b l s p f t 1 x w h hl ok hn))
  obtain ⟨V, hV⟩ : ∃ V : Int, ((numV false (s.extract p (p + 1))) : Int) = V := ⟨_, rfl⟩
  rw [hV] at hT ⊢
  have hK := Lib.hid hT
  clear h hl ok hn hz hV hT
  go_enter Tryz.func121, Tryz.ntmps121
  go_wp2_with fail
  refine hK.out.mono ?_
  rintro e w1 ⟨rfl, hw⟩
  have HW := Lib.hid hw
  clear hw
  go_wp2
  go_ret2
  exact ⟨rfl, HW.out⟩

set_option maxRecDepth 100000 in
theorem u8_no (b l : Nat) (s : ByteArray) (p f t : Nat) (x : St) (w : World) (h : So b l s p f t w) (hl : Led l x.ls w) (ok : x.Ok) (hn : rdB x p t 1 = false) :
    Calls Tryz.prog 121 #[.pointer (some ⟨b, 0, none⟩)] w
      fun e w' => e = .returned (.tuple #[.int .i64 0, .bool false]) ∧ (So b l s p f t w' ∧ Led l (x.work 1).1.ls w') ∧ w.grownBy w' (some l) := by
  have hK := Lib.hid (read8_no b 1 false w _ (take_no b l s p f t x 1 w h hl ok hn))
  clear h hl ok hn
  go_enter Tryz.func121, Tryz.ntmps121
  go_wp2_with fail
  refine hK.out.mono ?_
  rintro e w1 ⟨rfl, hw⟩
  have HW := Lib.hid hw
  clear hw
  go_wp2
  go_ret2
  exact ⟨rfl, HW.out⟩

end Go.Proofs.YtfhcefglefkakaaGreatDoor.Sr
