/- Texts of one kind, one behind the other: Qw2. -/
import Derived.Test.YtmhghkgcfgacdaaGreatG21
import Derived.Test.YtmhghkgcfgacdaaGreatG24
/- Layer 26: a step's first byte is written. -/
namespace Go.Proofs.YtmhghkgcfgacdaaGreat.Qw
open Go.ChangeShapes Go.WideShapes Go.ChangeAt Go.RowKit Go.Proofs.YtmhghkgcfgacdaaGreat.Le Go.Proofs.YtmhghkgcfgacdaaGreat.Bd
set_option linter.unusedVariables false

theorem or_six (k n : Nat) (hk : k ≤ 3) (hn : n < 64) : bits .or .i64 ((k : Int) * 64) (n : Int) = ((64 * k + n : Nat) : Int) := by
  have hn2 : (k * 64) ||| n = 64 * k + n := by
    have := Nat.shiftLeft_add_eq_or_of_lt (i := 6) (b := n) (by omega) k
    rw [show k * 64 = k <<< 6 from by rw [Nat.shiftLeft_eq], ← this, Nat.shiftLeft_eq]
    omega
  have h1 : (BitVec.ofInt 64 (n : Int)).toNat = n := by
    rw [BitVec.ofInt_natCast, BitVec.toNat_ofNat]; exact Nat.mod_eq_of_lt (by omega)
  have h2 : (BitVec.ofInt 64 ((k * 64 : Nat) : Int)).toNat = k * 64 := by
    rw [BitVec.ofInt_natCast, BitVec.toNat_ofNat]; exact Nat.mod_eq_of_lt (by omega)
  have e : (k : Int) * 64 = ((k * 64 : Nat) : Int) := by omega
  rw [e]
  show IntKind.i64.wrap ((BitVec.ofInt 64 ((k * 64 : Nat) : Int) ||| BitVec.ofInt 64 (n : Int)).toNat : Int) = _
  rw [BitVec.toNat_or, h1, h2, hn2, IntKind.wrap_i64]
  omega

theorem liesQ : liesAt Tryz.prog Tryz.prog.depth 101 ((262 : Nat) / Tryz.prog.cellsOf 101) 260 99 1 = true := by kernel_rfl

set_option maxRecDepth 100000 in
theorem step_calls (k n : Nat) (C : Array Value) (b B : Nat) (p L : Value) (bs : List UInt8) (w : World) (hk : k ≤ 3) (hn : n < 64) (hC : C.size = 262) (h : Bo 101 C b 260 B p L bs w) (hp : Ad b 260 p) (hlen : bs.length ≤ 1000000) :
    Calls Tryz.prog 58 #[.pointer (some ⟨b, 0, none⟩), .int .i64 k, .int .i64 n] w fun e w' => e = .returned (.tuple #[]) ∧ (∃ L', Bo 101 (wrC C b 260 L') b 260 B (.pointer (some ⟨b, 260, none⟩)) L' (bs ++ [UInt8.ofNat (64 * k + n)]) w') ∧ Fr b B w w' := by
  have KB := byte_calls 101 C b 260 B p L bs (UInt8.ofNat (64 * k + n)) w h hp (by rw [hC]; exact liesQ) hlen
  have e1 : ((UInt8.ofNat (64 * k + n)).toNat : Int) = ((64 * k + n : Nat) : Int) := by
    rw [UInt8.toNat_ofNat']
    omega
  rw [e1] at KB
  have KB := Lib.hid KB
  have o1 := or_six k n hk hn
  have w1 : IntKind.i64.wrap ((k : Int) * 64) = (k : Int) * 64 := IntWalk.i64_in _ (by omega)
  have w2 : IntKind.u8.wrap ((64 * k + n : Nat) : Int) = ((64 * k + n : Nat) : Int) := IntWalk.u8_in _ (by omega)
  have w3 : ((64 * k + n : Nat) : Int) % 256 = ((64 * k + n : Nat) : Int) := by omega
  obtain ⟨N, hN⟩ : ∃ N, 64 * k + n = N := ⟨_, rfl⟩
  rw [hN] at KB o1 w2 w3 ⊢
  have hb := blk_lt h.blk
  clear h hp hC hN e1
  go_enter Tryz.func58, Tryz.ntmps58
  go_wp2_with fail
  refine KB.out.mono ?_
  rintro e w2 ⟨rfl, h2, f2⟩
  have H2 := Lib.hid h2
  have F2 := Lib.hid f2
  clear h2 f2
  go_wp2
  go_end0
  exact ⟨rfl, H2.out, F2.out⟩

end Go.Proofs.YtmhghkgcfgacdaaGreat.Qw
