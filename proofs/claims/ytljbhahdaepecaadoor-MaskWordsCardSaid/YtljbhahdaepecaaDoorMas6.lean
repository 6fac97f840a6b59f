/- Layer 9: the document's Color, walked, out of its channels. -/
import Derived.Test.YtljbhahdaepecaaDoorMas5
import Derived.Laws.ResultCell
namespace Go.Proofs.YtljbhahdaepecaaDoor.Ma
open Go.ChangeShapes Go.WideShapes Go.ChangeAt Go.RowKit
open Go.Proofs.YtljbhahdaepecaaDoor.Sc
set_option linter.unusedVariables false

set_option maxRecDepth 100000 in
theorem rcolor_calls (word R G B A r g b a : Int) (W : World)
    (KR : ∀ u, Calls Tryd.prog 28 #[.int .i64 word, .int .i64 R, .int .i64 0] u fun e w' => e = .returned (.int .u8 r) ∧ u = w')
    (KG : ∀ u, Calls Tryd.prog 28 #[.int .i64 word, .int .i64 G, .int .i64 0] u fun e w' => e = .returned (.int .u8 g) ∧ u = w')
    (KB : ∀ u, Calls Tryd.prog 28 #[.int .i64 word, .int .i64 B, .int .i64 0] u fun e w' => e = .returned (.int .u8 b) ∧ u = w')
    (KA : ∀ u, Calls Tryd.prog 28 #[.int .i64 word, .int .i64 A, .int .i64 255] u fun e w' => e = .returned (.int .u8 a) ∧ u = w') :
    Calls Tryd.prog 17 #[.int .i64 word, .int .i64 R, .int .i64 G, .int .i64 B, .int .i64 A] W
      fun e w' => e = .returned (.agg #[.int .u8 r, .int .u8 g, .int .u8 b, .int .u8 a]) ∧ W.grownBy w' none := by
  have KR' := Lib.hid KR
  have KG' := Lib.hid KG
  have KB' := Lib.hid KB
  have KA' := Lib.hid KA
  clear KR KG KB KA
  go_enter Tryd.func17, Tryd.ntmps17
  go_wp2_with fail
  refine (KR'.out _).mono ?_
  rintro e w' ⟨rfl, rfl⟩
  go_wp2_with fail
  refine (KG'.out _).mono ?_
  rintro e w' ⟨rfl, rfl⟩
  go_wp2_with fail
  refine (KB'.out _).mono ?_
  rintro e w' ⟨rfl, rfl⟩
  go_wp2_with fail
  refine (KA'.out _).mono ?_
  rintro e w' ⟨rfl, rfl⟩
  go_wp2
  refine bodyPost_ret (v := .agg #[.int .u8 r, .int .u8 g, .int .u8 b, .int .u8 a]) (by simp [results, Tryd.results17, go_sem]) rfl ⟨rfl, ?_⟩
  exact World.grownBy_alloc _ _ _

end Go.Proofs.YtljbhahdaepecaaDoor.Ma
