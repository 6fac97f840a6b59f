/- Layer 9: MaskWords, walked. -/
import Derived.Test.YtljbhahdaepecaaDoorMasM
import Derived.Test.YtljbhahdaepecaaDoorMasN
import Derived.Test.YtljbhahdaepecaaDoorMasO
import Derived.Test.YtljbhahdaepecaaDoorMasP
namespace Go.Proofs.YtljbhahdaepecaaDoor.Ma
open Go.ChangeShapes Go.WideShapes Go.ChangeAt Go.RowKit
open Go.Proofs.YtljbhahdaepecaaDoor.Le Go.Proofs.YtljbhahdaepecaaDoor.Sc
set_option linter.unusedVariables false

theorem words_walk (c0 c1 c2 c3 o : Int) (al : Bool) (W : World) (hlt : 0 < W.heap.size) (hT : Tab W) (h0 : 0 ≤ c0 ∧ c0 ≤ 255) (h1 : 0 ≤ c1 ∧ c1 ≤ 255) (h2 : 0 ≤ c2 ∧ c2 ≤ 255) (h3 : 0 ≤ c3 ∧ c3 ≤ 255) (ho : 0 ≤ o ∧ o ≤ 255) :
    Calls Tryd.prog 5 #[.agg #[.int .u8 c0, .int .u8 c1, .int .u8 c2, .int .u8 c3], .int .u8 o, .bool al] W fun e w' => e = .returned (.bool true) ∧ W.grownBy w' none := by
  obtain ⟨n0, rfl⟩ : ∃ n : Nat, c0 = n := ⟨c0.toNat, by omega⟩
  obtain ⟨n1, rfl⟩ : ∃ n : Nat, c1 = n := ⟨c1.toNat, by omega⟩
  obtain ⟨n2, rfl⟩ : ∃ n : Nat, c2 = n := ⟨c2.toNat, by omega⟩
  obtain ⟨n3, rfl⟩ : ∃ n : Nat, c3 = n := ⟨c3.toNat, by omega⟩
  obtain hk | hk | hk | hk : o % 4 = 0 ∨ o % 4 = 1 ∨ o % 4 = 2 ∨ o % 4 = 3 := by omega
  · cases al
    · exact words_0_false n0 n1 n2 n3 o W hlt hT (by omega) (by omega) (by omega) (by omega) ho.1 ho.2 hk
    · exact words_0_true n0 n1 n2 n3 o W hlt hT (by omega) (by omega) (by omega) (by omega) ho.1 ho.2 hk
  · cases al
    · exact words_1_false n0 n1 n2 n3 o W hlt hT (by omega) (by omega) (by omega) (by omega) ho.1 ho.2 hk
    · exact words_1_true n0 n1 n2 n3 o W hlt hT (by omega) (by omega) (by omega) (by omega) ho.1 ho.2 hk
  · cases al
    · exact words_2_false n0 n1 n2 n3 o W hlt hT (by omega) (by omega) (by omega) (by omega) ho.1 ho.2 hk
    · exact words_2_true n0 n1 n2 n3 o W hlt hT (by omega) (by omega) (by omega) (by omega) ho.1 ho.2 hk
  · cases al
    · exact words_3_false n0 n1 n2 n3 o W hlt hT (by omega) (by omega) (by omega) (by omega) ho.1 ho.2 hk
    · exact words_3_true n0 n1 n2 n3 o W hlt hT (by omega) (by omega) (by omega) (by omega) ho.1 ho.2 hk

end Go.Proofs.YtljbhahdaepecaaDoor.Ma
