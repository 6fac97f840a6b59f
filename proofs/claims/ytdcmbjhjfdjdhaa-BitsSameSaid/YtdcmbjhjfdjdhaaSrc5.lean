/- Package src: the six numbers. -/
import Derived.Test.YtdcmbjhjfdjdhaaSrc4
namespace Go.Proofs.Ytdcmbjhjfdjdhaa.Sr
open Go.ChangeShapes Go.WideShapes Go.ChangeAt Go.RowKit
open Go.Proofs.Ytdcmbjhjfdjdhaa.Le
set_option linter.unusedVariables false

theorem part_size (s : ByteArray) (p n : Nat) (h : p + n ≤ s.size) : (s.extract p (p + n)).size = n := by
  rw [ByteArray.size_extract]
  omega

theorem read8_no (b : Nat) (n : Int) (o : Bool) (w : World) (K : World → Prop)
    (hT : Calls Try.prog 21 #[.pointer (some ⟨b, 0, none⟩), .int .i64 n] w fun e w' => e = .returned (.tuple #[.string ⟨#[]⟩, .bool false]) ∧ K w') :
    Calls Try.prog 54 #[.pointer (some ⟨b, 0, none⟩), .int .i64 n, .bool o] w
      fun e w' => e = .returned (.tuple #[.int .i64 0, .bool false]) ∧ K w' := by
  have hK := Lib.hid hT
  clear hT
  go_enter Try.func54, Try.ntmps54
  go_wp2_with fail
  refine hK.out.mono ?_
  rintro e w1 ⟨rfl, hw⟩
  have HW := Lib.hid hw
  clear hw
  go_wp2
  go_ret2
  exact ⟨rfl, HW.out⟩

theorem read16_no (b : Nat) (n : Int) (o : Bool) (w : World) (K : World → Prop)
    (hT : Calls Try.prog 21 #[.pointer (some ⟨b, 0, none⟩), .int .i64 n] w fun e w' => e = .returned (.tuple #[.string ⟨#[]⟩, .bool false]) ∧ K w') :
    Calls Try.prog 48 #[.pointer (some ⟨b, 0, none⟩), .int .i64 n, .bool o] w
      fun e w' => e = .returned (.tuple #[.int .i64 0, .bool false]) ∧ K w' := by
  have hK := Lib.hid hT
  clear hT
  go_enter Try.func48, Try.ntmps48
  go_wp2_with fail
  refine hK.out.mono ?_
  rintro e w1 ⟨rfl, hw⟩
  have HW := Lib.hid hw
  clear hw
  go_wp2
  go_ret2
  exact ⟨rfl, HW.out⟩

theorem read32_no (b : Nat) (n : Int) (o : Bool) (w : World) (K : World → Prop)
    (hT : Calls Try.prog 21 #[.pointer (some ⟨b, 0, none⟩), .int .i64 n] w fun e w' => e = .returned (.tuple #[.string ⟨#[]⟩, .bool false]) ∧ K w') :
    Calls Try.prog 46 #[.pointer (some ⟨b, 0, none⟩), .int .i64 n, .bool o] w
      fun e w' => e = .returned (.tuple #[.int .i64 0, .bool false]) ∧ K w' := by
  have hK := Lib.hid hT
  clear hT
  go_enter Try.func46, Try.ntmps46
  go_wp2_with fail
  refine hK.out.mono ?_
  rintro e w1 ⟨rfl, hw⟩
  have HW := Lib.hid hw
  clear hw
  go_wp2
  go_ret2
  exact ⟨rfl, HW.out⟩

theorem readi_no (b : Nat) (n : Int) (o : Bool) (w : World) (K : World → Prop)
    (hT : Calls Try.prog 21 #[.pointer (some ⟨b, 0, none⟩), .int .i64 n] w fun e w' => e = .returned (.tuple #[.string ⟨#[]⟩, .bool false]) ∧ K w') :
    Calls Try.prog 47 #[.pointer (some ⟨b, 0, none⟩), .int .i64 n, .bool o] w
      fun e w' => e = .returned (.tuple #[.int .i64 0, .bool false]) ∧ K w' := by
  have hK := Lib.hid hT
  clear hT
  go_enter Try.func47, Try.ntmps47
  go_wp2_with fail
  refine hK.out.mono ?_
  rintro e w1 ⟨rfl, hw⟩
  have HW := Lib.hid hw
  clear hw
  go_wp2
  go_ret2
  exact ⟨rfl, HW.out⟩

set_option maxRecDepth 100000 in
theorem u8_yes (b l : Nat) (s : ByteArray) (p f t : Nat) (x : St) (w : World) (h : So b l s p f t w) (hl : Led l x.ls w) (ok : x.Ok) (hn : rdB x p t 1 = true) :
    Calls Try.prog 38 #[.pointer (some ⟨b, 0, none⟩)] w
      fun e w' => e = .returned (.tuple #[.int .i64 (numV false (s.extract p (p + 1))), .bool true]) ∧ (So b l s (p + 1) f t w' ∧ Led l (x.work 1).1.ls w') ∧ Tn w w' [b, l] := by
  have hz := rd_of hn
  have h2 := h.ts
  have hT := (read8_go b l (s.extract p (p + 1)) 1 false w _ (part_size s p 1 (by omega)) (by decide) (take_yes b l s p f t 1 x w h hl ok hn))
  obtain ⟨V, hV⟩ : ∃ V : Int, ((numV false (s.extract p (p + 1))) : Int) = V := ⟨_, rfl⟩
  rw [hV] at hT ⊢
  have hK := Lib.hid hT
  clear h hl ok hn hz hV hT
  go_enter Try.func38, Try.ntmps38
  go_wp2_with fail
  refine hK.out.mono ?_
  rintro e w1 ⟨rfl, hw⟩
  have HW := Lib.hid hw
  clear hw
  go_wp2
  go_ret2
  exact ⟨rfl, HW.out⟩

set_option maxRecDepth 100000 in
theorem u8_no (b l : Nat) (s : ByteArray) (p f t : Nat) (x : St) (w : World) (h : So b l s p f t w) (hl : Led l x.ls w) (ok : x.Ok) (hn : rdB x p t 1 = false) :
    Calls Try.prog 38 #[.pointer (some ⟨b, 0, none⟩)] w
      fun e w' => e = .returned (.tuple #[.int .i64 0, .bool false]) ∧ (So b l s p f t w' ∧ Led l (x.work 1).1.ls w') ∧ w.grownBy w' (some l) := by
  have hK := Lib.hid (read8_no b 1 false w _ (take_no b l s p f t x 1 w h hl ok hn))
  clear h hl ok hn
  go_enter Try.func38, Try.ntmps38
  go_wp2_with fail
  refine hK.out.mono ?_
  rintro e w1 ⟨rfl, hw⟩
  have HW := Lib.hid hw
  clear hw
  go_wp2
  go_ret2
  exact ⟨rfl, HW.out⟩

set_option maxRecDepth 100000 in
theorem le16_yes (b l : Nat) (s : ByteArray) (p f t : Nat) (x : St) (w : World) (h : So b l s p f t w) (hl : Led l x.ls w) (ok : x.Ok) (hn : rdB x p t 2 = true) :
    Calls Try.prog 26 #[.pointer (some ⟨b, 0, none⟩)] w
      fun e w' => e = .returned (.tuple #[.int .i64 (numV false (s.extract p (p + 2))), .bool true]) ∧ (So b l s (p + 2) f t w' ∧ Led l (x.work 1).1.ls w') ∧ Tn w w' [b, l] := by
  have hz := rd_of hn
  have h2 := h.ts
  have hT := (read16_go b l (s.extract p (p + 2)) 2 false w _ (part_size s p 2 (by omega)) (by decide) (take_yes b l s p f t 2 x w h hl ok hn))
  obtain ⟨V, hV⟩ : ∃ V : Int, ((numV false (s.extract p (p + 2))) : Int) = V := ⟨_, rfl⟩
  rw [hV] at hT ⊢
  have hK := Lib.hid hT
  clear h hl ok hn hz hV hT
  go_enter Try.func26, Try.ntmps26
  go_wp2_with fail
  refine hK.out.mono ?_
  rintro e w1 ⟨rfl, hw⟩
  have HW := Lib.hid hw
  clear hw
  go_wp2
  go_ret2
  exact ⟨rfl, HW.out⟩

set_option maxRecDepth 100000 in
theorem le16_no (b l : Nat) (s : ByteArray) (p f t : Nat) (x : St) (w : World) (h : So b l s p f t w) (hl : Led l x.ls w) (ok : x.Ok) (hn : rdB x p t 2 = false) :
    Calls Try.prog 26 #[.pointer (some ⟨b, 0, none⟩)] w
      fun e w' => e = .returned (.tuple #[.int .i64 0, .bool false]) ∧ (So b l s p f t w' ∧ Led l (x.work 1).1.ls w') ∧ w.grownBy w' (some l) := by
  have hK := Lib.hid (read16_no b 2 false w _ (take_no b l s p f t x 2 w h hl ok hn))
  clear h hl ok hn
  go_enter Try.func26, Try.ntmps26
  go_wp2_with fail
  refine hK.out.mono ?_
  rintro e w1 ⟨rfl, hw⟩
  have HW := Lib.hid hw
  clear hw
  go_wp2
  go_ret2
  exact ⟨rfl, HW.out⟩

set_option maxRecDepth 100000 in
theorem le32_yes (b l : Nat) (s : ByteArray) (p f t : Nat) (x : St) (w : World) (h : So b l s p f t w) (hl : Led l x.ls w) (ok : x.Ok) (hn : rdB x p t 4 = true) :
    Calls Try.prog 22 #[.pointer (some ⟨b, 0, none⟩)] w
      fun e w' => e = .returned (.tuple #[.int .i64 (numV false (s.extract p (p + 4))), .bool true]) ∧ (So b l s (p + 4) f t w' ∧ Led l (x.work 1).1.ls w') ∧ Tn w w' [b, l] := by
  have hz := rd_of hn
  have h2 := h.ts
  have hT := (read32_go b l (s.extract p (p + 4)) 4 false w _ (part_size s p 4 (by omega)) (by decide) (take_yes b l s p f t 4 x w h hl ok hn))
  obtain ⟨V, hV⟩ : ∃ V : Int, ((numV false (s.extract p (p + 4))) : Int) = V := ⟨_, rfl⟩
  rw [hV] at hT ⊢
  have hK := Lib.hid hT
  clear h hl ok hn hz hV hT
  go_enter Try.func22, Try.ntmps22
  go_wp2_with fail
  refine hK.out.mono ?_
  rintro e w1 ⟨rfl, hw⟩
  have HW := Lib.hid hw
  clear hw
  go_wp2
  go_ret2
  exact ⟨rfl, HW.out⟩

set_option maxRecDepth 100000 in
theorem le32_no (b l : Nat) (s : ByteArray) (p f t : Nat) (x : St) (w : World) (h : So b l s p f t w) (hl : Led l x.ls w) (ok : x.Ok) (hn : rdB x p t 4 = false) :
    Calls Try.prog 22 #[.pointer (some ⟨b, 0, none⟩)] w
      fun e w' => e = .returned (.tuple #[.int .i64 0, .bool false]) ∧ (So b l s p f t w' ∧ Led l (x.work 1).1.ls w') ∧ w.grownBy w' (some l) := by
  have hK := Lib.hid (read32_no b 4 false w _ (take_no b l s p f t x 4 w h hl ok hn))
  clear h hl ok hn
  go_enter Try.func22, Try.ntmps22
  go_wp2_with fail
  refine hK.out.mono ?_
  rintro e w1 ⟨rfl, hw⟩
  have HW := Lib.hid hw
  clear hw
  go_wp2
  go_ret2
  exact ⟨rfl, HW.out⟩

set_option maxRecDepth 100000 in
theorem int32_yes (b l : Nat) (s : ByteArray) (p f t : Nat) (x : St) (w : World) (h : So b l s p f t w) (hl : Led l x.ls w) (ok : x.Ok) (hn : rdB x p t 4 = true) :
    Calls Try.prog 25 #[.pointer (some ⟨b, 0, none⟩)] w
      fun e w' => e = .returned (.tuple #[.int .i64 (sgn (numV false (s.extract p (p + 4)))), .bool true]) ∧ (So b l s (p + 4) f t w' ∧ Led l (x.work 1).1.ls w') ∧ Tn w w' [b, l] := by
  have hz := rd_of hn
  have h2 := h.ts
  have hT := (readi_go b l (s.extract p (p + 4)) 4 false w _ (part_size s p 4 (by omega)) (by decide) (take_yes b l s p f t 4 x w h hl ok hn))
  obtain ⟨V, hV⟩ : ∃ V : Int, ((sgn (numV false (s.extract p (p + 4)))) : Int) = V := ⟨_, rfl⟩
  rw [hV] at hT ⊢
  have hK := Lib.hid hT
  clear h hl ok hn hz hV hT
  go_enter Try.func25, Try.ntmps25
  go_wp2_with fail
  refine hK.out.mono ?_
  rintro e w1 ⟨rfl, hw⟩
  have HW := Lib.hid hw
  clear hw
  go_wp2
  go_ret2
  exact ⟨rfl, HW.out⟩

set_option maxRecDepth 100000 in
theorem int32_no (b l : Nat) (s : ByteArray) (p f t : Nat) (x : St) (w : World) (h : So b l s p f t w) (hl : Led l x.ls w) (ok : x.Ok) (hn : rdB x p t 4 = false) :
    Calls Try.prog 25 #[.pointer (some ⟨b, 0, none⟩)] w
      fun e w' => e = .returned (.tuple #[.int .i64 0, .bool false]) ∧ (So b l s p f t w' ∧ Led l (x.work 1).1.ls w') ∧ w.grownBy w' (some l) := by
  have hK := Lib.hid (readi_no b 4 false w _ (take_no b l s p f t x 4 w h hl ok hn))
  clear h hl ok hn
  go_enter Try.func25, Try.ntmps25
  go_wp2_with fail
  refine hK.out.mono ?_
  rintro e w1 ⟨rfl, hw⟩
  have HW := Lib.hid hw
  clear hw
  go_wp2
  go_ret2
  exact ⟨rfl, HW.out⟩

set_option maxRecDepth 100000 in
theorem be16_yes (b l : Nat) (s : ByteArray) (p f t : Nat) (x : St) (w : World) (h : So b l s p f t w) (hl : Led l x.ls w) (ok : x.Ok) (hn : rdB x p t 2 = true) :
    Calls Try.prog 27 #[.pointer (some ⟨b, 0, none⟩)] w
      fun e w' => e = .returned (.tuple #[.int .i64 (numV true (s.extract p (p + 2))), .bool true]) ∧ (So b l s (p + 2) f t w' ∧ Led l (x.work 1).1.ls w') ∧ Tn w w' [b, l] := by
  have hz := rd_of hn
  have h2 := h.ts
  have hT := (read16_go b l (s.extract p (p + 2)) 2 true w _ (part_size s p 2 (by omega)) (by decide) (take_yes b l s p f t 2 x w h hl ok hn))
  obtain ⟨V, hV⟩ : ∃ V : Int, ((numV true (s.extract p (p + 2))) : Int) = V := ⟨_, rfl⟩
  rw [hV] at hT ⊢
  have hK := Lib.hid hT
  clear h hl ok hn hz hV hT
  go_enter Try.func27, Try.ntmps27
  go_wp2_with fail
  refine hK.out.mono ?_
  rintro e w1 ⟨rfl, hw⟩
  have HW := Lib.hid hw
  clear hw
  go_wp2
  go_ret2
  exact ⟨rfl, HW.out⟩

set_option maxRecDepth 100000 in
theorem be16_no (b l : Nat) (s : ByteArray) (p f t : Nat) (x : St) (w : World) (h : So b l s p f t w) (hl : Led l x.ls w) (ok : x.Ok) (hn : rdB x p t 2 = false) :
    Calls Try.prog 27 #[.pointer (some ⟨b, 0, none⟩)] w
      fun e w' => e = .returned (.tuple #[.int .i64 0, .bool false]) ∧ (So b l s p f t w' ∧ Led l (x.work 1).1.ls w') ∧ w.grownBy w' (some l) := by
  have hK := Lib.hid (read16_no b 2 true w _ (take_no b l s p f t x 2 w h hl ok hn))
  clear h hl ok hn
  go_enter Try.func27, Try.ntmps27
  go_wp2_with fail
  refine hK.out.mono ?_
  rintro e w1 ⟨rfl, hw⟩
  have HW := Lib.hid hw
  clear hw
  go_wp2
  go_ret2
  exact ⟨rfl, HW.out⟩

set_option maxRecDepth 100000 in
theorem be32_yes (b l : Nat) (s : ByteArray) (p f t : Nat) (x : St) (w : World) (h : So b l s p f t w) (hl : Led l x.ls w) (ok : x.Ok) (hn : rdB x p t 4 = true) :
    Calls Try.prog 24 #[.pointer (some ⟨b, 0, none⟩)] w
      fun e w' => e = .returned (.tuple #[.int .i64 (numV true (s.extract p (p + 4))), .bool true]) ∧ (So b l s (p + 4) f t w' ∧ Led l (x.work 1).1.ls w') ∧ Tn w w' [b, l] := by
  have hz := rd_of hn
  have h2 := h.ts
  have hT := (read32_go b l (s.extract p (p + 4)) 4 true w _ (part_size s p 4 (by omega)) (by decide) (take_yes b l s p f t 4 x w h hl ok hn))
  obtain ⟨V, hV⟩ : ∃ V : Int, ((numV true (s.extract p (p + 4))) : Int) = V := ⟨_, rfl⟩
  rw [hV] at hT ⊢
  have hK := Lib.hid hT
  clear h hl ok hn hz hV hT
  go_enter Try.func24, Try.ntmps24
  go_wp2_with fail
  refine hK.out.mono ?_
  rintro e w1 ⟨rfl, hw⟩
  have HW := Lib.hid hw
  clear hw
  go_wp2
  go_ret2
  exact ⟨rfl, HW.out⟩

set_option maxRecDepth 100000 in
theorem be32_no (b l : Nat) (s : ByteArray) (p f t : Nat) (x : St) (w : World) (h : So b l s p f t w) (hl : Led l x.ls w) (ok : x.Ok) (hn : rdB x p t 4 = false) :
    Calls Try.prog 24 #[.pointer (some ⟨b, 0, none⟩)] w
      fun e w' => e = .returned (.tuple #[.int .i64 0, .bool false]) ∧ (So b l s p f t w' ∧ Led l (x.work 1).1.ls w') ∧ w.grownBy w' (some l) := by
  have hK := Lib.hid (read32_no b 4 true w _ (take_no b l s p f t x 4 w h hl ok hn))
  clear h hl ok hn
  go_enter Try.func24, Try.ntmps24
  go_wp2_with fail
  refine hK.out.mono ?_
  rintro e w1 ⟨rfl, hw⟩
  have HW := Lib.hid hw
  clear hw
  go_wp2
  go_ret2
  exact ⟨rfl, HW.out⟩

end Go.Proofs.Ytdcmbjhjfdjdhaa.Sr
