/- Texts of one kind, one behind the other: Led4, Led5. -/
import Derived.BigQuiet
import Derived.Deep.QuietTactic
import Derived.Deep.RegionWith
import Derived.StillTailTactics
import Derived.Test.YtmhghkgcfgacdaaGreatG05
/- Package ledger: each method answers, and leaves in memory, what plain functions on states give. -/
namespace Go.Proofs.YtmhghkgcfgacdaaGreat.Le
open Go.ChangeShapes Go.WideShapes Go.ChangeAt Go.RowKit
set_option linter.unusedVariables false

/-- The greater of two. -/
def up (pk v : Int) : Int := if v ≤ pk then pk else v
theorem up_ge (pk v : Int) : v ≤ up pk v ∧ pk ≤ up pk v := by unfold up; split <;> omega
theorem up_le {pk v m : Int} (h1 : pk ≤ m) (h2 : v ≤ m) : up pk v ≤ m := by unfold up; split <;> omega

/-- The document's state of a ledger: a budget, counts, the first refusal (reason 0: none). -/
structure St where
  w : Int
  h : Int
  b : Int
  s : Int
  by_ : Int
  pk : Int
  st : Int
  r : Int
  a : Int

def St.ls (x : St) : LS := { w := x.w, h := x.h, mb := x.b, mw := x.s, by_ := x.by_, pk := x.pk, st := x.st, d := if x.r = 0 then 0 else 1, lk := 0, se := 0, r := x.r, a := x.a, br := if x.r = 0 then 0 else 1 }

/-- What holds of a state: the numbers fit, the counts stay within the budget. -/
structure St.Ok (x : St) : Prop where
  w0 : 0 ≤ x.w
  w1 : x.w ≤ 9223372036854775807
  h0 : 0 ≤ x.h
  h1 : x.h ≤ 9223372036854775807
  b1 : x.b ≤ 9223372036854775807
  s1 : x.s ≤ 9223372036854775807
  y0 : 0 ≤ x.by_
  yp : x.by_ ≤ x.pk
  pb : x.pk ≤ x.b
  t0 : 0 ≤ x.st
  ts : x.st ≤ x.s
  r0 : 0 ≤ x.r
  r3 : x.r ≤ 3

def St.refuse (x : St) (r a : Int) : St := if x.r = 0 then { x with r := r, a := a } else x
def St.sides (x : St) (w h : Int) : St × Bool :=
  if x.r ≠ 0 then (x, false) else if w < 1 ∨ x.w < w then (x.refuse 1 w, false) else if h < 1 ∨ x.h < h then (x.refuse 1 h, false) else (x, true)
def St.take (x : St) (n : Int) : St × Bool :=
  if x.r ≠ 0 then (x, false) else if n < 0 ∨ x.b - x.by_ < n then (x.refuse 2 n, false) else ({ x with by_ := x.by_ + n, pk := up x.pk (x.by_ + n) }, true)
def St.give (x : St) (n : Int) : St × Bool :=
  if n < 0 ∨ x.by_ < n then (x, false) else ({ x with by_ := x.by_ - n }, true)
def St.work (x : St) (n : Int) : St × Bool :=
  if x.r ≠ 0 then (x, false) else if n < 0 ∨ x.s - x.st < n then (x.refuse 3 n, false) else ({ x with st := x.st + n }, true)

theorem St.Ok.refuse {x : St} (h : x.Ok) {r : Int} (a : Int) (h0 : 0 ≤ r) (h3 : r ≤ 3) : (x.refuse r a).Ok := by
  unfold St.refuse
  split
  · exact ⟨h.w0, h.w1, h.h0, h.h1, h.b1, h.s1, h.y0, h.yp, h.pb, h.t0, h.ts, h0, h3⟩
  · exact h
theorem St.Ok.sides {x : St} (h : x.Ok) (a b : Int) : (x.sides a b).1.Ok := by
  unfold St.sides
  repeat' split
  · exact h
  · exact h.refuse _ (by decide) (by decide)
  · exact h.refuse _ (by decide) (by decide)
  · exact h
theorem St.Ok.take {x : St} (h : x.Ok) (n : Int) : (x.take n).1.Ok := by
  unfold St.take
  split
  · exact h
  split
  · exact h.refuse _ (by decide) (by decide)
  · rename_i hn
    have a1 := h.y0
    have a2 := h.yp
    have a3 := h.pb
    refine ⟨h.w0, h.w1, h.h0, h.h1, h.b1, h.s1, ?_, ?_, ?_, h.t0, h.ts, h.r0, h.r3⟩
    · show 0 ≤ x.by_ + n; omega
    · exact (up_ge _ _).1
    · exact up_le a3 (by show x.by_ + n ≤ x.b; omega)
theorem St.Ok.give {x : St} (h : x.Ok) (n : Int) : (x.give n).1.Ok := by
  unfold St.give
  split
  · exact h
  · rename_i hn
    have a1 := h.y0
    have a2 := h.yp
    exact ⟨h.w0, h.w1, h.h0, h.h1, h.b1, h.s1, by show 0 ≤ x.by_ - n; omega, by show x.by_ - n ≤ x.pk; omega, h.pb, h.t0, h.ts, h.r0, h.r3⟩
theorem St.Ok.work {x : St} (h : x.Ok) (n : Int) : (x.work n).1.Ok := by
  unfold St.work
  split
  · exact h
  split
  · exact h.refuse _ (by decide) (by decide)
  · rename_i hn
    have a1 := h.t0
    have a2 := h.ts
    exact ⟨h.w0, h.w1, h.h0, h.h1, h.b1, h.s1, h.y0, h.yp, h.pb, by show 0 ≤ x.st + n; omega, by show x.st + n ≤ x.s; omega, h.r0, h.r3⟩

theorem broken_calls (b : Nat) (S : LS) (w : World) (h : Led b S w) :
    Calls Tryz.prog 68 #[.pointer (some ⟨b, 0, none⟩)] w fun e w' => e = .returned (.bool (S.br != 0)) ∧ w = w' := by
  have K := Lib.hid (loadB ⟨b, 12, none⟩ S.br w ((h.c 12).trans (by simp [LS.cells])) rfl)
  clear h
  go_enter Tryz.func68, Tryz.ntmps68
  go_wp2_with (go_at_call 89; refine K.out.mono ?_; rintro e w' ⟨rfl, rfl⟩)
  go_ret
  exact ⟨rfl, rfl⟩

theorem bytes_calls (b : Nat) (S : LS) (w : World) (h : Led b S w) :
    Calls Tryz.prog 13 #[.pointer (some ⟨b, 0, none⟩)] w fun e w' => e = .returned (.int .i64 S.by_) ∧ w = w' := by
  have K := Lib.hid (load64 ⟨b, 4, none⟩ S.by_ w ((h.c 4).trans (by simp [LS.cells])) rfl)
  clear h
  go_enter Tryz.func13, Tryz.ntmps13
  go_wp2_with (go_at_call 34; refine K.out.mono ?_; rintro e w' ⟨rfl, rfl⟩)
  go_ret
  exact ⟨rfl, rfl⟩

theorem growB (b : Nat) (S : LS) (n m : Int) (w : World) (h : Led b S w) (x0 : 0 ≤ S.by_) (xm : S.by_ ≤ m) (m1 : m ≤ 9223372036854775807) (n0 : 0 ≤ n) (hn : n ≤ m - S.by_) :
    Calls Tryz.prog 92 #[.pointer (some ⟨b, 4, none⟩), .int .i64 n, .int .i64 m] w
      fun e w' => e = .returned (.tuple #[.int .i64 (S.by_ + n), .bool true]) ∧ Led b { S with by_ := S.by_ + n } w' ∧ w.grownBy w' (some b) :=
  (grow_yes ⟨b, 4, none⟩ n m S.by_ w ((h.c 4).trans (by simp [LS.cells])) (h.free 4) rfl x0 xm m1 n0 hn).mono fun e w' ⟨he, hw⟩ =>
    ⟨he, hw ▸ Led.set h 4 _ (by simp [LS.cells]), hw ▸ gb_set _ _ _ _⟩

theorem growS (b : Nat) (S : LS) (n m : Int) (w : World) (h : Led b S w) (x0 : 0 ≤ S.st) (xm : S.st ≤ m) (m1 : m ≤ 9223372036854775807) (n0 : 0 ≤ n) (hn : n ≤ m - S.st) :
    Calls Tryz.prog 92 #[.pointer (some ⟨b, 6, none⟩), .int .i64 n, .int .i64 m] w
      fun e w' => e = .returned (.tuple #[.int .i64 (S.st + n), .bool true]) ∧ Led b { S with st := S.st + n } w' ∧ w.grownBy w' (some b) :=
  (grow_yes ⟨b, 6, none⟩ n m S.st w ((h.c 6).trans (by simp [LS.cells])) (h.free 6) rfl x0 xm m1 n0 hn).mono fun e w' ⟨he, hw⟩ =>
    ⟨he, hw ▸ Led.set h 6 _ (by simp [LS.cells]), hw ▸ gb_set _ _ _ _⟩

theorem raiseP (b : Nat) (S : LS) (v : Int) (w : World) (h : Led b S w) :
    Calls Tryz.prog 93 #[.pointer (some ⟨b, 5, none⟩), .int .i64 v] w
      fun e w' => e = .returned (.tuple #[]) ∧ Led b { S with pk := up S.pk v } w' ∧ w.grownBy w' (some b) := by
  refine (raise_any ⟨b, 5, none⟩ v S.pk w ((h.c 5).trans (by simp [LS.cells])) (h.free 5) rfl).mono fun e w' ⟨he, hw⟩ => ⟨he, ?_⟩
  unfold up
  by_cases hv : v ≤ S.pk
  · rw [if_pos hv] at hw ⊢
    exact hw ▸ ⟨h, gb_refl _ _⟩
  · rw [if_neg hv] at hw ⊢
    exact hw ▸ ⟨Led.set h 5 _ (by simp [LS.cells]), gb_set _ _ _ _⟩

set_option maxRecDepth 100000 in
/-- Take, which is let. -/
theorem take_yes (b : Nat) (x : St) (n : Int) (w : World) (h : Led b x.ls w) (ok : x.Ok) (hr : x.r = 0) (n0 : 0 ≤ n) (hn : n ≤ x.b - x.by_) :
    Calls Tryz.prog 70 #[.pointer (some ⟨b, 0, none⟩), .int .i64 n] w
      fun e w' => e = .returned (.bool true) ∧ Led b ({ x with by_ := x.by_ + n, pk := up x.pk (x.by_ + n) } : St).ls w' ∧ w.grownBy w' (some b) := by
  have KB := Lib.hid (broken_calls b _ w h)
  have c2 := (h.c 2).trans (show x.ls.cells[2]? = some (.int .i64 x.b) by simp [LS.cells, St.ls])
  have hbr : (x.ls.br != 0) = false := by simp [St.ls, hr]
  have OK := Lib.hid (Int.le_trans ok.yp ok.pb)
  have KG := Lib.hid (growB b x.ls n x.b w.drew h.drew ok.y0 OK.out ok.b1 n0 hn)
  clear h hr ok
  go_enter Tryz.func70, Tryz.ntmps70
  go_wp2_with (go_at_call 68; refine KB.out.mono ?_; rintro e w' ⟨rfl, rfl⟩)
  go_region_with (go_at_call 92; refine KG.out.mono ?_; rintro e w3 ⟨rfl, L3, g3⟩; have H3 := Lib.hid L3; have G3 := Lib.hid g3; clear L3 g3)
  go_wp2_with fail
  have KR := Lib.hid (raiseP b _ (x.by_ + n) w3 H3.out)
  refine KR.out.mono ?_
  rintro e w4 ⟨rfl, L4, g4⟩
  have H4 := Lib.hid L4
  have G4 := Lib.hid g4
  clear L4 g4
  go_wp2
  go_ret
  exact ⟨rfl, H4.out, gb_trans (gb_trans (gb_drew _ _) G3.out) G4.out⟩

theorem refuse_st (b : Nat) (x : St) (r a : Int) (w : World) (h : Led b x.ls w) (hr : x.r = 0) (r0 : r ≠ 0) :
    Calls Tryz.prog 69 #[.pointer (some ⟨b, 0, none⟩), .int .i64 r, .int .i64 a] w
      fun e w' => e = .returned (.tuple #[]) ∧ Led b (x.refuse r a).ls w' ∧ w.grownBy w' (some b) :=
  (refuse_calls b x.ls r a w h (by simp [St.ls, hr]) rfl).mono fun e w' ⟨he, hL, hg⟩ =>
    ⟨he, by
      have e1 : (x.refuse r a).ls = { x.ls with r := r, a := a, br := 1, d := 1 } := by simp [St.refuse, St.ls, hr, r0]
      rw [e1]; exact hL, hg⟩

set_option maxRecDepth 100000 in
theorem take_no (b : Nat) (x : St) (n : Int) (w : World) (h : Led b x.ls w) (ok : x.Ok) (hr : x.r = 0) (hn : n < 0 ∨ x.b - x.by_ < n) :
    Calls Tryz.prog 70 #[.pointer (some ⟨b, 0, none⟩), .int .i64 n] w
      fun e w' => e = .returned (.bool false) ∧ Led b (x.refuse 2 n).ls w' ∧ w.grownBy w' (some b) := by
  have KB := Lib.hid (broken_calls b _ w h)
  have c2 := (h.c 2).trans (show x.ls.cells[2]? = some (.int .i64 x.b) by simp [LS.cells, St.ls])
  have hbr : (x.ls.br != 0) = false := by simp [St.ls, hr]
  have KG := Lib.hid (grow_no ⟨b, 4, none⟩ n x.b x.by_ w.drew ((h.drew.c 4).trans (by simp [LS.cells, St.ls])) rfl ok.y0 (Int.le_trans ok.yp ok.pb) ok.b1 hn)
  have KR := Lib.hid (refuse_st b x 2 n w.drew h.drew hr (by decide))
  clear h hr ok hn
  go_enter Tryz.func70, Tryz.ntmps70
  go_wp2_with (go_at_call 68; refine KB.out.mono ?_; rintro e w' ⟨rfl, rfl⟩)
  go_region_with (go_at_call 92; refine KG.out.mono ?_; rintro e w3 ⟨rfl, rfl⟩)
  go_wp2_with fail
  refine KR.out.mono ?_
  rintro e w4 ⟨rfl, L4, g4⟩
  have H4 := Lib.hid L4
  have G4 := Lib.hid g4
  clear L4 g4
  go_wp2
  go_ret
  exact ⟨rfl, H4.out, gb_trans (gb_drew _ _) G4.out⟩

theorem take_broken (b : Nat) (x : St) (n : Int) (w : World) (h : Led b x.ls w) (hr : x.r ≠ 0) :
    Calls Tryz.prog 70 #[.pointer (some ⟨b, 0, none⟩), .int .i64 n] w
      fun e w' => e = .returned (.bool false) ∧ w = w' := by
  have KB := Lib.hid (broken_calls b _ w h)
  have hbr : (x.ls.br != 0) = true := by simp [St.ls, hr]
  clear h hr
  go_enter Tryz.func70, Tryz.ntmps70
  go_wp2_with (go_at_call 68; refine KB.out.mono ?_; rintro e w' ⟨rfl, rfl⟩)
  go_ret
  exact ⟨rfl, rfl⟩

/-- Take, of any number, at any state. -/
theorem take_calls (b : Nat) (x : St) (n : Int) (w : World) (h : Led b x.ls w) (ok : x.Ok) :
    Calls Tryz.prog 70 #[.pointer (some ⟨b, 0, none⟩), .int .i64 n] w
      fun e w' => e = .returned (.bool (x.take n).2) ∧ Led b (x.take n).1.ls w' ∧ w.grownBy w' (some b) := by
  unfold St.take
  by_cases hr : x.r = 0
  · rw [if_neg (by simpa using hr)]
    by_cases hn : n < 0 ∨ x.b - x.by_ < n
    · rw [if_pos hn]; exact take_no b x n w h ok hr hn
    · rw [if_neg hn]; exact take_yes b x n w h ok hr (by omega) (by omega)
  · rw [if_pos hr]
    exact (take_broken b x n w h hr).mono fun e w' ⟨he, hw⟩ => ⟨he, hw ▸ h, hw ▸ gb_refl _ _⟩

set_option maxRecDepth 100000 in
theorem work_yes (b : Nat) (x : St) (n : Int) (w : World) (h : Led b x.ls w) (ok : x.Ok) (hr : x.r = 0) (n0 : 0 ≤ n) (hn : n ≤ x.s - x.st) :
    Calls Tryz.prog 105 #[.pointer (some ⟨b, 0, none⟩), .int .i64 n] w
      fun e w' => e = .returned (.bool true) ∧ Led b ({ x with st := x.st + n } : St).ls w' ∧ w.grownBy w' (some b) := by
  have KB := Lib.hid (broken_calls b _ w h)
  have c2 := (h.c 3).trans (show x.ls.cells[3]? = some (.int .i64 x.s) by simp [LS.cells, St.ls])
  have hbr : (x.ls.br != 0) = false := by simp [St.ls, hr]
  have KG := Lib.hid (growS b x.ls n x.s w.drew h.drew ok.t0 ok.ts ok.s1 n0 hn)
  clear h hr ok
  go_enter Tryz.func105, Tryz.ntmps105
  go_wp2_with (go_at_call 68; refine KB.out.mono ?_; rintro e w' ⟨rfl, rfl⟩)
  go_region_with (go_at_call 92; refine KG.out.mono ?_; rintro e w3 ⟨rfl, L3, g3⟩; have H3 := Lib.hid L3; have G3 := Lib.hid g3; clear L3 g3)
  go_wp2
  go_ret
  exact ⟨rfl, H3.out, gb_trans (gb_drew _ _) G3.out⟩

set_option maxRecDepth 100000 in
theorem work_no (b : Nat) (x : St) (n : Int) (w : World) (h : Led b x.ls w) (ok : x.Ok) (hr : x.r = 0) (hn : n < 0 ∨ x.s - x.st < n) :
    Calls Tryz.prog 105 #[.pointer (some ⟨b, 0, none⟩), .int .i64 n] w
      fun e w' => e = .returned (.bool false) ∧ Led b (x.refuse 3 n).ls w' ∧ w.grownBy w' (some b) := by
  have KB := Lib.hid (broken_calls b _ w h)
  have c2 := (h.c 3).trans (show x.ls.cells[3]? = some (.int .i64 x.s) by simp [LS.cells, St.ls])
  have hbr : (x.ls.br != 0) = false := by simp [St.ls, hr]
  have KG := Lib.hid (grow_no ⟨b, 6, none⟩ n x.s x.st w.drew ((h.drew.c 6).trans (by simp [LS.cells, St.ls])) rfl ok.t0 ok.ts ok.s1 hn)
  have KR := Lib.hid (refuse_st b x 3 n w.drew h.drew hr (by decide))
  clear h hr ok hn
  go_enter Tryz.func105, Tryz.ntmps105
  go_wp2_with (go_at_call 68; refine KB.out.mono ?_; rintro e w' ⟨rfl, rfl⟩)
  go_region_with (go_at_call 92; refine KG.out.mono ?_; rintro e w3 ⟨rfl, rfl⟩)
  go_wp2_with fail
  refine KR.out.mono ?_
  rintro e w4 ⟨rfl, L4, g4⟩
  have H4 := Lib.hid L4
  have G4 := Lib.hid g4
  clear L4 g4
  go_wp2
  go_ret
  exact ⟨rfl, H4.out, gb_trans (gb_drew _ _) G4.out⟩

theorem work_broken (b : Nat) (x : St) (n : Int) (w : World) (h : Led b x.ls w) (hr : x.r ≠ 0) :
    Calls Tryz.prog 105 #[.pointer (some ⟨b, 0, none⟩), .int .i64 n] w
      fun e w' => e = .returned (.bool false) ∧ w = w' := by
  have KB := Lib.hid (broken_calls b _ w h)
  have hbr : (x.ls.br != 0) = true := by simp [St.ls, hr]
  clear h hr
  go_enter Tryz.func105, Tryz.ntmps105
  go_wp2_with (go_at_call 68; refine KB.out.mono ?_; rintro e w' ⟨rfl, rfl⟩)
  go_ret
  exact ⟨rfl, rfl⟩

/-- Work, of any number, at any state. -/
theorem work_calls (b : Nat) (x : St) (n : Int) (w : World) (h : Led b x.ls w) (ok : x.Ok) :
    Calls Tryz.prog 105 #[.pointer (some ⟨b, 0, none⟩), .int .i64 n] w
      fun e w' => e = .returned (.bool (x.work n).2) ∧ Led b (x.work n).1.ls w' ∧ w.grownBy w' (some b) := by
  unfold St.work
  by_cases hr : x.r = 0
  · rw [if_neg (by simpa using hr)]
    by_cases hn : n < 0 ∨ x.s - x.st < n
    · rw [if_pos hn]; exact work_no b x n w h ok hr hn
    · rw [if_neg hn]; exact work_yes b x n w h ok hr (by omega) (by omega)
  · rw [if_pos hr]
    exact (work_broken b x n w h hr).mono fun e w' ⟨he, hw⟩ => ⟨he, hw ▸ h, hw ▸ gb_refl _ _⟩
end Go.Proofs.YtmhghkgcfgacdaaGreat.Le

/- Package ledger: giving back, sides, the first refusal told, the budget, a new ledger. -/
namespace Go.Proofs.YtmhghkgcfgacdaaGreat.Le
open Go.ChangeShapes Go.WideShapes Go.ChangeAt Go.RowKit
set_option linter.unusedVariables false

theorem give_calls (b : Nat) (x : St) (n : Int) (w : World) (h : Led b x.ls w) (ok : x.Ok) :
    Calls Tryz.prog 71 #[.pointer (some ⟨b, 0, none⟩), .int .i64 n] w
      fun e w' => e = .returned (.bool (x.give n).2) ∧ Led b (x.give n).1.ls w' ∧ w.grownBy w' (some b) := by
  have c4 := (h.c 4).trans (show x.ls.cells[4]? = some (.int .i64 x.by_) by simp [LS.cells, St.ls])
  have K1 := Lib.hid (load64 ⟨b, 4, none⟩ x.by_ w c4 rfl)
  have K2 := Lib.hid (cas64 ⟨b, 4, none⟩ x.by_ (x.by_ - n) w c4 (h.free 4) rfl)
  have y0 := ok.y0
  have y1 := Int.le_trans (Int.le_trans ok.yp ok.pb) ok.b1
  have H := Lib.hid h
  clear h c4 ok
  unfold St.give
  by_cases hn : n < 0
  · rw [if_pos (Or.inl hn)]
    go_enter Tryz.func71, Tryz.ntmps71
    go_wp2
    go_ret
    exact ⟨rfl, H.out, gb_refl _ _⟩
  have n0 : 0 ≤ n := by omega
  clear hn
  by_cases hm : x.by_ < n
  · rw [if_pos (Or.inr hm)]
    go_enter Tryz.func71, Tryz.ntmps71
    go_wp2
    refine wp_loop_rounds 1 ?_
    rw [rounds_succ]
    go_wp2_with (go_at_call 34; refine K1.out.mono ?_; rintro e w' ⟨rfl, rfl⟩)
    go_ret
    exact ⟨rfl, H.out, gb_refl _ _⟩
  · rw [if_neg (by omega)]
    have hm' : n ≤ x.by_ := by omega
    clear hm
    go_enter Tryz.func71, Tryz.ntmps71
    go_wp2
    refine wp_loop_rounds 1 ?_
    rw [rounds_succ]
    go_wp2_with (first | (go_at_call 34; refine K1.out.mono ?_; rintro e w' ⟨rfl, rfl⟩) | (go_at_call 94; refine K2.out.mono ?_; rintro e w' ⟨rfl, rfl⟩))
    go_ret
    exact ⟨rfl, Led.set H.out 4 _ (by simp [LS.cells, St.ls]), gb_set _ _ _ _⟩

theorem sides_broken (b : Nat) (x : St) (n m : Int) (w : World) (h : Led b x.ls w) (hr : x.r ≠ 0) :
    Calls Tryz.prog 45 #[.pointer (some ⟨b, 0, none⟩), .int .i64 n, .int .i64 m] w
      fun e w' => e = .returned (.bool false) ∧ w = w' := by
  have KB := Lib.hid (broken_calls b _ w h)
  have hbr : (x.ls.br != 0) = true := by simp [St.ls, hr]
  clear h hr
  go_enter Tryz.func45, Tryz.ntmps45
  go_wp2_with (go_at_call 68; refine KB.out.mono ?_; rintro e w' ⟨rfl, rfl⟩)
  go_ret
  exact ⟨rfl, rfl⟩

theorem sides_w (b : Nat) (x : St) (n m : Int) (w : World) (h : Led b x.ls w) (hr : x.r = 0) (hn : n < 1 ∨ x.w < n) :
    Calls Tryz.prog 45 #[.pointer (some ⟨b, 0, none⟩), .int .i64 n, .int .i64 m] w
      fun e w' => e = .returned (.bool false) ∧ Led b (x.refuse 1 n).ls w' ∧ w.grownBy w' (some b) := by
  have KB := Lib.hid (broken_calls b _ w h)
  have c0 := (h.c 0).trans (show x.ls.cells[0]? = some (.int .i64 x.w) by simp [LS.cells, St.ls])
  have hbr : (x.ls.br != 0) = false := by simp [St.ls, hr]
  have KR := Lib.hid (refuse_st b x 1 n w h hr (by decide))
  clear h hr
  by_cases h1 : n < 1
  · clear hn
    go_enter Tryz.func45, Tryz.ntmps45
    go_wp2_with (go_at_call 68; refine KB.out.mono ?_; rintro e w' ⟨rfl, rfl⟩)
    refine KR.out.mono ?_
    rintro e w4 ⟨rfl, L4, g4⟩
    have H4 := Lib.hid L4
    have G4 := Lib.hid g4
    clear L4 g4
    go_wp2
    go_ret
    exact ⟨rfl, H4.out, G4.out⟩
  · have h2 : x.w < n := by omega
    have h3 : 1 ≤ n := by omega
    clear hn h1
    go_enter Tryz.func45, Tryz.ntmps45
    go_wp2_with (go_at_call 68; refine KB.out.mono ?_; rintro e w' ⟨rfl, rfl⟩)
    refine KR.out.mono ?_
    rintro e w4 ⟨rfl, L4, g4⟩
    have H4 := Lib.hid L4
    have G4 := Lib.hid g4
    clear L4 g4
    go_wp2
    go_ret
    exact ⟨rfl, H4.out, G4.out⟩

theorem sides_h (b : Nat) (x : St) (n m : Int) (w : World) (h : Led b x.ls w) (hr : x.r = 0) (n1 : 1 ≤ n) (nw : n ≤ x.w) (hn : m < 1 ∨ x.h < m) :
    Calls Tryz.prog 45 #[.pointer (some ⟨b, 0, none⟩), .int .i64 n, .int .i64 m] w
      fun e w' => e = .returned (.bool false) ∧ Led b (x.refuse 1 m).ls w' ∧ w.grownBy w' (some b) := by
  have KB := Lib.hid (broken_calls b _ w h)
  have c0 := (h.c 0).trans (show x.ls.cells[0]? = some (.int .i64 x.w) by simp [LS.cells, St.ls])
  have c1 := (h.c 1).trans (show x.ls.cells[1]? = some (.int .i64 x.h) by simp [LS.cells, St.ls])
  have hbr : (x.ls.br != 0) = false := by simp [St.ls, hr]
  have KR := Lib.hid (refuse_st b x 1 m w h hr (by decide))
  clear h hr
  by_cases h1 : m < 1
  · clear hn
    go_enter Tryz.func45, Tryz.ntmps45
    go_wp2_with (go_at_call 68; refine KB.out.mono ?_; rintro e w' ⟨rfl, rfl⟩)
    refine KR.out.mono ?_
    rintro e w4 ⟨rfl, L4, g4⟩
    have H4 := Lib.hid L4
    have G4 := Lib.hid g4
    clear L4 g4
    go_wp2
    go_ret
    exact ⟨rfl, H4.out, G4.out⟩
  · have h2 : x.h < m := by omega
    have h3 : 1 ≤ m := by omega
    clear hn h1
    go_enter Tryz.func45, Tryz.ntmps45
    go_wp2_with (go_at_call 68; refine KB.out.mono ?_; rintro e w' ⟨rfl, rfl⟩)
    refine KR.out.mono ?_
    rintro e w4 ⟨rfl, L4, g4⟩
    have H4 := Lib.hid L4
    have G4 := Lib.hid g4
    clear L4 g4
    go_wp2
    go_ret
    exact ⟨rfl, H4.out, G4.out⟩

theorem sides_yes (b : Nat) (x : St) (n m : Int) (w : World) (h : Led b x.ls w) (hr : x.r = 0) (n1 : 1 ≤ n) (nw : n ≤ x.w) (m1 : 1 ≤ m) (mh : m ≤ x.h) :
    Calls Tryz.prog 45 #[.pointer (some ⟨b, 0, none⟩), .int .i64 n, .int .i64 m] w
      fun e w' => e = .returned (.bool true) ∧ w = w' := by
  have KB := Lib.hid (broken_calls b _ w h)
  have c0 := (h.c 0).trans (show x.ls.cells[0]? = some (.int .i64 x.w) by simp [LS.cells, St.ls])
  have c1 := (h.c 1).trans (show x.ls.cells[1]? = some (.int .i64 x.h) by simp [LS.cells, St.ls])
  have hbr : (x.ls.br != 0) = false := by simp [St.ls, hr]
  clear h hr
  go_enter Tryz.func45, Tryz.ntmps45
  go_wp2_with (go_at_call 68; refine KB.out.mono ?_; rintro e w' ⟨rfl, rfl⟩)
  go_ret
  exact ⟨rfl, rfl⟩

/-- Sides, any, at any state. -/
theorem sides_calls (b : Nat) (x : St) (n m : Int) (w : World) (h : Led b x.ls w) :
    Calls Tryz.prog 45 #[.pointer (some ⟨b, 0, none⟩), .int .i64 n, .int .i64 m] w
      fun e w' => e = .returned (.bool (x.sides n m).2) ∧ Led b (x.sides n m).1.ls w' ∧ w.grownBy w' (some b) := by
  unfold St.sides
  by_cases hr : x.r = 0
  · rw [if_neg (by simpa using hr)]
    by_cases hn : n < 1 ∨ x.w < n
    · rw [if_pos hn]; exact sides_w b x n m w h hr hn
    · rw [if_neg hn]
      by_cases hm : m < 1 ∨ x.h < m
      · rw [if_pos hm]; exact sides_h b x n m w h hr (by omega) (by omega) hm
      · rw [if_neg hm]
        exact (sides_yes b x n m w h hr (by omega) (by omega) (by omega) (by omega)).mono fun e w' ⟨he, hw⟩ => ⟨he, hw ▸ h, hw ▸ gb_refl _ _⟩
  · rw [if_pos hr]
    exact (sides_broken b x n m w h hr).mono fun e w' ⟨he, hw⟩ => ⟨he, hw ▸ h, hw ▸ gb_refl _ _⟩

def pos (v : Int) : Int := if v < 0 then 0 else v
def St.new (w h b s : Int) : St := { w := pos w, h := pos h, b := pos b, s := pos s, by_ := 0, pk := 0, st := 0, r := 0, a := 0 }
theorem pos_le {v m : Int} (hm : 0 ≤ m) (h : v ≤ m) : 0 ≤ pos v ∧ pos v ≤ m := by unfold pos; split <;> omega
theorem St.new_ok {w h b s : Int} (hw : w ≤ 9223372036854775807) (hh : h ≤ 9223372036854775807) (hb : b ≤ 9223372036854775807) (hs : s ≤ 9223372036854775807) : (St.new w h b s).Ok :=
  ⟨(pos_le (by decide) hw).1, (pos_le (by decide) hw).2, (pos_le (by decide) hh).1, (pos_le (by decide) hh).2, (pos_le (by decide) hb).2, (pos_le (by decide) hs).2,
    Int.le_refl _, Int.le_refl _, (pos_le (by decide) hb).1, Int.le_refl _, (pos_le (by decide) hs).1, by show (0 : Int) ≤ 0; decide, by show (0 : Int) ≤ 3; decide⟩

theorem blk_new (w : World) (C : Array Value) (t : TypeId) : (w.alloc (.cells C t)).heap[w.heap.size]? = some (.cells C t (0, 0)) := by
  show (w.heap.push _)[w.heap.size]? = _
  rw [Array.getElem?_push_size]

theorem new_led (w : World) (o : Obj) (C : Array Value) (S : LS) (e : C = S.cells) : Led (w.heap.size + 1) S ((w.alloc o).alloc (.cells C 90)) := by
  have h := blk_new (w.alloc o) C 90
  rw [show (w.alloc o).heap.size = w.heap.size + 1 from by show (w.heap.push o).size = _; simp] at h
  rw [e] at h
  exact e ▸ h

theorem new_calls (p q r s : Int) (w : World) :
    Calls Tryz.prog 20 #[.agg #[.int .i64 p, .int .i64 q, .int .i64 r, .int .i64 s]] w
      fun e w' => ∃ b, e = .returned (.pointer (some ⟨b, 0, none⟩)) ∧ Led b (St.new p q r s).ls w' ∧ w.grownBy w' none ∧ w.heap.size ≤ b := by
  go_enter Tryz.func20, Tryz.ntmps20
  go_wp2
  all_goals go_ret
  all_goals refine ⟨w.heap.size + 1, rfl, ?_, gb_trans (World.grownBy_alloc _ _ _) (World.grownBy_alloc _ _ _), by omega⟩
  all_goals refine new_led _ _ _ _ ?_
  all_goals simp [LS.cells, St.ls, St.new, pos, *]
  all_goals omega
end Go.Proofs.YtmhghkgcfgacdaaGreat.Le
