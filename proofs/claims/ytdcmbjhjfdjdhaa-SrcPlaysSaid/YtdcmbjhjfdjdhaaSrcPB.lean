/- Layer 5's law: any call of both. -/
import Derived.Test.YtdcmbjhjfdjdhaaSrcP6
import Derived.Test.YtdcmbjhjfdjdhaaSrcP7
import Derived.Test.YtdcmbjhjfdjdhaaSrcP8
import Derived.Test.YtdcmbjhjfdjdhaaSrcP9
import Derived.Test.YtdcmbjhjfdjdhaaSrcPA
namespace Go.Proofs.Ytdcmbjhjfdjdhaa.Sr
open Go.ChangeShapes Go.WideShapes Go.ChangeAt Go.RowKit
open Go.Proofs.Ytdcmbjhjfdjdhaa.Le
set_option linter.unusedVariables false

/-- Any call of both. -/
theorem one_any (b l : Nat) (s : ByteArray) (p f t : Nat) (x : St) (k n m : Int) (hi : n ≤ 9223372036854775807) (w : World) (h : SL b l s p f t x w) :
    Calls Try.prog 13 #[.pointer (some ⟨b, 0, none⟩), .agg (SAc s p f t x), .agg #[.int .i64 k, .int .i64 n, .int .i64 m]] w (OneP b l s w) := by
  by_cases h0 : k < 1 ∨ 11 < k
  · exact one_none b l s p f t x k n m h0 w h
  obtain rfl | rfl | rfl | rfl | rfl | rfl | rfl | rfl | rfl | rfl | rfl : k = 1 ∨ k = 2 ∨ k = 3 ∨ k = 4 ∨ k = 5 ∨ k = 6 ∨ k = 7 ∨ k = 8 ∨ k = 9 ∨ k = 10 ∨ k = 11 := by omega
  · exact one_reads b l s p f t x 1 n m (by decide) (by decide) (fun w h => reads_u8 b l s p f t x w h) w h
  · exact one_reads b l s p f t x 2 n m (by decide) (by decide) (fun w h => reads_le16 b l s p f t x w h) w h
  · exact one_reads b l s p f t x 3 n m (by decide) (by decide) (fun w h => reads_le32 b l s p f t x w h) w h
  · exact one_reads b l s p f t x 4 n m (by decide) (by decide) (fun w h => reads_int32 b l s p f t x w h) w h
  · exact one_reads b l s p f t x 5 n m (by decide) (by decide) (fun w h => reads_be16 b l s p f t x w h) w h
  · exact one_reads b l s p f t x 6 n m (by decide) (by decide) (fun w h => reads_be32 b l s p f t x w h) w h
  · exact one_take b l s p f t x n m w h
  · by_cases hr : rdB x p t 1 = true
    · exact one_peek_yes b l s p f t x n m w h hr
    · exact one_peek_no b l s p f t x n m w h (by simpa using hr)
  · exact one_skip b l s p f t x n m w h
  · by_cases hn : n < f ∨ (t : Int) < n
    · exact one_seek_no b l s p f t x n m hn w h
    · obtain ⟨q, rfl⟩ := Int.eq_ofNat_of_zero_le (show 0 ≤ n by omega)
      exact one_seek_yes b l s p f t x q m (by omega) (by omega) w h
  · by_cases hn : n < f ∨ (t : Int) < n ∨ m < 0 ∨ (t : Int) - n < m
    · exact one_window_no b l s p f t x n m hi hn w h
    · obtain ⟨q, rfl⟩ := Int.eq_ofNat_of_zero_le (show 0 ≤ n by omega)
      obtain ⟨r, rfl⟩ := Int.eq_ofNat_of_zero_le (show 0 ≤ m by omega)
      exact one_window_yes b l s p f t x q r (by omega) (by omega) w h

end Go.Proofs.Ytdcmbjhjfdjdhaa.Sr
