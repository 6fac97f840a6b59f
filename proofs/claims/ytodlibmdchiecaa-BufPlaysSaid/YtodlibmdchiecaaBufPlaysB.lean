/- One call of a buffer, and of the document's: any. -/
import Derived.Test.YtodlibmdchiecaaBufPlays3
import Derived.Test.YtodlibmdchiecaaBufPlays4
import Derived.Test.YtodlibmdchiecaaBufPlays5
import Derived.Test.YtodlibmdchiecaaBufPlays6
import Derived.Test.YtodlibmdchiecaaBufPlays7
import Derived.Test.YtodlibmdchiecaaBufPlays8
import Derived.Test.YtodlibmdchiecaaBufPlays9
import Derived.Test.YtodlibmdchiecaaBufPlaysA
namespace Go.Proofs.Ytodlibmdchiecaa.Bu
open Go.ChangeShapes Go.WideShapes Go.ChangeAt Go.RowKit
open Go.Proofs.Ytodlibmdchiecaa.Le
set_option linter.unusedVariables false

theorem nat_of {i : Int} (h : 0 ≤ i) : ∃ k : Nat, i = (k : Int) := ⟨i.toNat, by omega⟩

theorem one_calls {W w : World} {b l g : Nat} {o : Bool} {s : ByteArray} {y : Int} (I : PB W b l g o s y w) (k i n : Int) (v : UInt8) (S : ByteArray) (hi : i ≤ 9223372036854775807)
    (hg : g < w.heap.size) :
    Calls Try.prog 10 #[.pointer (some ⟨b, 0, none⟩), .agg #[.string s, .bool o, .int .i64 y], .agg #[.int .i64 k, .int .i64 i, .int .i64 n, .int .u8 (v.toNat : Int), .string S]] w (Went W b l g) := by
  have hb := I.blt
  have hl := I.kp.lt
  have hW := I.grown.size
  by_cases h0 : k < 1 ∨ 7 < k
  · exact one_none I k i n _ S hb hg hl hW h0
  have hk : k = 1 ∨ k = 2 ∨ k = 3 ∨ k = 4 ∨ k = 5 ∨ k = 6 ∨ k = 7 := by omega
  rcases hk with rfl | rfl | rfl | rfl | rfl | rfl | rfl
  · cases ht : thereB o s.size i 1 with
    | false => exact one1_no I i n _ S hi hb hg hl hW ht
    | true =>
      obtain ⟨rfl, a, _, c⟩ := there_of ht
      obtain ⟨j, rfl⟩ := nat_of a
      exact one1_yes I j n _ S hb hg hl hW (by omega)
  · cases ht : thereB o s.size i 1 with
    | false => exact one2_no I i n v S hb hg hl hW hi ht
    | true =>
      obtain ⟨rfl, a, _, c⟩ := there_of ht
      obtain ⟨j, rfl⟩ := nat_of a
      exact one2_yes I j n v S hb hg hl hW (by omega)
  · cases ht : thereB o s.size i S.size with
    | false => exact one3_no I i n _ S hb hg hl hW hi ht
    | true =>
      obtain ⟨rfl, a, _, c⟩ := there_of ht
      obtain ⟨j, rfl⟩ := nat_of a
      exact one3_yes I j n _ S hb hg hl hW (by omega)
  · cases ht : thereB o s.size i n with
    | false => exact one4_no I i n _ S hi hb hg hl hW ht
    | true =>
      obtain ⟨rfl, a, d, c⟩ := there_of ht
      obtain ⟨j, rfl⟩ := nat_of a
      obtain ⟨m, rfl⟩ := nat_of d
      exact one4_yes I j m v S hb hg hl hW (by omega)
  · cases ht : thereB o s.size i n with
    | false => exact one5_no I i n _ S hi hb hg hl hW ht
    | true =>
      obtain ⟨rfl, a, d, c⟩ := there_of ht
      obtain ⟨j, rfl⟩ := nat_of a
      obtain ⟨m, rfl⟩ := nat_of d
      exact one5_yes I j m _ S hb hg hl hW (by omega)
  · cases o with
    | true => exact one6_yes I i n _ S hb hg hl hW
    | false => exact one6_no I i n _ S hb hg hl hW
  · cases o with
    | true => exact one7_yes I i n _ S hb hg hl hW
    | false => exact one7_no I i n _ S hb hg hl hW

end Go.Proofs.Ytodlibmdchiecaa.Bu
