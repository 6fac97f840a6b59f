/- Package fault: words, and what may be told. -/
import Derived.Test.YtdcmbjhjfdjdhaaDoorTn
import Derived.Deep.RegionHeld3
namespace Go.Proofs.YtdcmbjhjfdjdhaaDoor.Fa
open Go.ChangeShapes Go.WideShapes Go.ChangeAt Go.RowKit
open Go.Proofs.YtdcmbjhjfdjdhaaDoor.Le
set_option linter.unusedVariables false

/-- A kind's word; empty: there is none. -/
def kw (n : Int) : ByteArray :=
  if n = 0 then ⟨#[110, 111, 110, 101]⟩ else if n = 1 then ⟨#[116, 114, 117, 110, 99, 97, 116, 101, 100]⟩ else if n = 2 then ⟨#[109, 97, 108, 102, 111, 114, 109, 101, 100]⟩
  else if n = 3 then ⟨#[117, 110, 115, 117, 112, 112, 111, 114, 116, 101, 100]⟩ else if n = 4 then ⟨#[115, 112, 101, 110, 116]⟩ else ⟨#[]⟩
/-- A format's word; empty: there is none. -/
def fw (n : Int) : ByteArray :=
  if n = 0 then ⟨#[117, 110, 107, 110, 111, 119, 110]⟩ else if n = 1 then ⟨#[98, 109, 112]⟩ else if n = 2 then ⟨#[116, 103, 97]⟩ else if n = 3 then ⟨#[112, 110, 109]⟩ else if n = 4 then ⟨#[105, 99, 111]⟩
  else if n = 5 then ⟨#[113, 111, 105]⟩ else if n = 6 then ⟨#[102, 102]⟩ else if n = 7 then ⟨#[112, 99, 120]⟩ else if n = 8 then ⟨#[115, 117, 110]⟩ else ⟨#[]⟩
theorem kw_out {n : Int} (h : n < 0 ∨ 4 < n) : kw n = ⟨#[]⟩ := by
  unfold kw
  rw [if_neg (by omega), if_neg (by omega), if_neg (by omega), if_neg (by omega), if_neg (by omega)]
theorem fw_out {n : Int} (h : n < 0 ∨ 8 < n) : fw n = ⟨#[]⟩ := by
  unfold fw
  rw [if_neg (by omega), if_neg (by omega), if_neg (by omega), if_neg (by omega), if_neg (by omega), if_neg (by omega), if_neg (by omega), if_neg (by omega), if_neg (by omega)]

set_option maxRecDepth 100000 in
theorem kind_calls (n : Int) (w : World) : Calls Tryd.prog 9 #[.int .i64 n] w fun e w' => e = .returned (.string (kw n)) ∧ w.grownBy w' none := by
  by_cases h0 : n < 0
  · rw [kw_out (.inl h0)]
    go_enter Tryd.func9, Tryd.ntmps9
    go_wp2
    go_ret
    exact ⟨rfl, World.grownBy_alloc _ _ _⟩
  by_cases h5 : 5 ≤ n
  · rw [kw_out (.inr (by omega))]
    have h0' : 0 ≤ n := by omega
    clear h0
    go_enter Tryd.func9, Tryd.ntmps9
    go_wp2
    go_ret
    exact ⟨rfl, World.grownBy_alloc _ _ _⟩
  have hn : n = 0 ∨ n = 1 ∨ n = 2 ∨ n = 3 ∨ n = 4 := by omega
  clear h0 h5
  rcases hn with rfl | rfl | rfl | rfl | rfl
  all_goals
    go_enter Tryd.func9, Tryd.ntmps9
    go_wp2
    go_ret
    exact ⟨rfl, World.grownBy_alloc _ _ _⟩

set_option maxRecDepth 100000 in
set_option maxHeartbeats 4000000 in
theorem format_calls (n : Int) (w : World) : Calls Tryd.prog 11 #[.int .i64 n] w fun e w' => e = .returned (.string (fw n)) ∧ w.grownBy w' none := by
  by_cases h0 : n < 0
  · rw [fw_out (.inl h0)]
    go_enter Tryd.func11, Tryd.ntmps11
    go_wp2
    go_ret
    exact ⟨rfl, World.grownBy_alloc _ _ _⟩
  by_cases h5 : 9 ≤ n
  · rw [fw_out (.inr (by omega))]
    have h0' : 0 ≤ n := by omega
    clear h0
    go_enter Tryd.func11, Tryd.ntmps11
    go_wp2
    go_ret
    exact ⟨rfl, World.grownBy_alloc _ _ _⟩
  have hn : n = 0 ∨ n = 1 ∨ n = 2 ∨ n = 3 ∨ n = 4 ∨ n = 5 ∨ n = 6 ∨ n = 7 ∨ n = 8 := by omega
  clear h0 h5
  rcases hn with rfl | rfl | rfl | rfl | rfl | rfl | rfl | rfl | rfl
  all_goals
    go_enter Tryd.func11, Tryd.ntmps11
    go_wp2
    go_ret
    exact ⟨rfl, World.grownBy_alloc _ _ _⟩

end Go.Proofs.YtdcmbjhjfdjdhaaDoor.Fa
