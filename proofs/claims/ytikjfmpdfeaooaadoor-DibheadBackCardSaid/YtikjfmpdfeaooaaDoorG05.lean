/- Texts of one kind, one behind the other: Led4, Led5, TnL, Src1, Src2, Src3, Tn. -/
import Derived.BigQuiet
import Derived.Deep.QuietTactic
import Derived.Deep.RegionWith
import Derived.StillTailTactics
import Derived.Test.YtikjfmpdfeaooaaDoorG04
/- Package ledger: each method answers, and leaves in memory, what plain functions on states give. -/
namespace Go.Proofs.YtikjfmpdfeaooaaDoor.Le
open Go.ChangeShapes Go.WideShapes Go.ChangeAt Go.RowKit
set_option linter.unusedVariables false

/-- The greater of two. -/
def up (pk v : Int) : Int := if v ≤ pk then pk else v
theorem up_ge (pk v : Int) : v ≤ up pk v ∧ pk ≤ up pk v := by unfold up; split <;> omega
theorem up_le {pk v m : Int} (h1 : pk ≤ m) (h2 : v ≤ m) : up pk v ≤ m := by unfold up; split <;> omega

/-- The document's state of a ledger: a budget, counts, the first refusal (reason 0: none). -/
structure St where
  w : Int
  h : Int
  b : Int
  s : Int
  by_ : Int
  pk : Int
  st : Int
  r : Int
  a : Int

def St.ls (x : St) : LS := { w := x.w, h := x.h, mb := x.b, mw := x.s, by_ := x.by_, pk := x.pk, st := x.st, d := if x.r = 0 then 0 else 1, lk := 0, se := 0, r := x.r, a := x.a, br := if x.r = 0 then 0 else 1 }

/-- What holds of a state: the numbers fit, the counts stay within the budget. -/
structure St.Ok (x : St) : Prop where
  w0 : 0 ≤ x.w
  w1 : x.w ≤ 9223372036854775807
  h0 : 0 ≤ x.h
  h1 : x.h ≤ 9223372036854775807
  b1 : x.b ≤ 9223372036854775807
  s1 : x.s ≤ 9223372036854775807
  y0 : 0 ≤ x.by_
  yp : x.by_ ≤ x.pk
  pb : x.pk ≤ x.b
  t0 : 0 ≤ x.st
  ts : x.st ≤ x.s
  r0 : 0 ≤ x.r
  r3 : x.r ≤ 3

def St.refuse (x : St) (r a : Int) : St := if x.r = 0 then { x with r := r, a := a } else x
def St.sides (x : St) (w h : Int) : St × Bool :=
  if x.r ≠ 0 then (x, false) else if w < 1 ∨ x.w < w then (x.refuse 1 w, false) else if h < 1 ∨ x.h < h then (x.refuse 1 h, false) else (x, true)
def St.take (x : St) (n : Int) : St × Bool :=
  if x.r ≠ 0 then (x, false) else if n < 0 ∨ x.b - x.by_ < n then (x.refuse 2 n, false) else ({ x with by_ := x.by_ + n, pk := up x.pk (x.by_ + n) }, true)
def St.give (x : St) (n : Int) : St × Bool :=
  if n < 0 ∨ x.by_ < n then (x, false) else ({ x with by_ := x.by_ - n }, true)
def St.work (x : St) (n : Int) : St × Bool :=
  if x.r ≠ 0 then (x, false) else if n < 0 ∨ x.s - x.st < n then (x.refuse 3 n, false) else ({ x with st := x.st + n }, true)

theorem St.Ok.refuse {x : St} (h : x.Ok) {r : Int} (a : Int) (h0 : 0 ≤ r) (h3 : r ≤ 3) : (x.refuse r a).Ok := by
  unfold St.refuse
  split
  · exact ⟨h.w0, h.w1, h.h0, h.h1, h.b1, h.s1, h.y0, h.yp, h.pb, h.t0, h.ts, h0, h3⟩
  · exact h
theorem St.Ok.sides {x : St} (h : x.Ok) (a b : Int) : (x.sides a b).1.Ok := by
  unfold St.sides
  repeat' split
  · exact h
  · exact h.refuse _ (by decide) (by decide)
  · exact h.refuse _ (by decide) (by decide)
  · exact h
theorem St.Ok.take {x : St} (h : x.Ok) (n : Int) : (x.take n).1.Ok := by
  unfold St.take
  split
  · exact h
  split
  · exact h.refuse _ (by decide) (by decide)
  · rename_i hn
    have a1 := h.y0
    have a2 := h.yp
    have a3 := h.pb
    refine ⟨h.w0, h.w1, h.h0, h.h1, h.b1, h.s1, ?_, ?_, ?_, h.t0, h.ts, h.r0, h.r3⟩
    · show 0 ≤ x.by_ + n; omega
    · exact (up_ge _ _).1
    · exact up_le a3 (by show x.by_ + n ≤ x.b; omega)
theorem St.Ok.give {x : St} (h : x.Ok) (n : Int) : (x.give n).1.Ok := by
  unfold St.give
  split
  · exact h
  · rename_i hn
    have a1 := h.y0
    have a2 := h.yp
    exact ⟨h.w0, h.w1, h.h0, h.h1, h.b1, h.s1, by show 0 ≤ x.by_ - n; omega, by show x.by_ - n ≤ x.pk; omega, h.pb, h.t0, h.ts, h.r0, h.r3⟩
theorem St.Ok.work {x : St} (h : x.Ok) (n : Int) : (x.work n).1.Ok := by
  unfold St.work
  split
  · exact h
  split
  · exact h.refuse _ (by decide) (by decide)
  · rename_i hn
    have a1 := h.t0
    have a2 := h.ts
    exact ⟨h.w0, h.w1, h.h0, h.h1, h.b1, h.s1, h.y0, h.yp, h.pb, by show 0 ≤ x.st + n; omega, by show x.st + n ≤ x.s; omega, h.r0, h.r3⟩

theorem broken_calls (b : Nat) (S : LS) (w : World) (h : Led b S w) :
    Calls Tryd.prog 63 #[.pointer (some ⟨b, 0, none⟩)] w fun e w' => e = .returned (.bool (S.br != 0)) ∧ w = w' := by
  have K := Lib.hid (loadB ⟨b, 12, none⟩ S.br w ((h.c 12).trans (by simp [LS.cells])) rfl)
  clear h
  go_enter Tryd.func63, Tryd.ntmps63
  go_wp2_with (go_at_call 69; refine K.out.mono ?_; rintro e w' ⟨rfl, rfl⟩)
  go_ret
  exact ⟨rfl, rfl⟩

theorem growS (b : Nat) (S : LS) (n m : Int) (w : World) (h : Led b S w) (x0 : 0 ≤ S.st) (xm : S.st ≤ m) (m1 : m ≤ 9223372036854775807) (n0 : 0 ≤ n) (hn : n ≤ m - S.st) :
    Calls Tryd.prog 77 #[.pointer (some ⟨b, 6, none⟩), .int .i64 n, .int .i64 m] w
      fun e w' => e = .returned (.tuple #[.int .i64 (S.st + n), .bool true]) ∧ Led b { S with st := S.st + n } w' ∧ w.grownBy w' (some b) :=
  (grow_yes ⟨b, 6, none⟩ n m S.st w ((h.c 6).trans (by simp [LS.cells])) (h.free 6) rfl x0 xm m1 n0 hn).mono fun e w' ⟨he, hw⟩ =>
    ⟨he, hw ▸ Led.set h 6 _ (by simp [LS.cells]), hw ▸ gb_set _ _ _ _⟩

theorem refuse_st (b : Nat) (x : St) (r a : Int) (w : World) (h : Led b x.ls w) (hr : x.r = 0) (r0 : r ≠ 0) :
    Calls Tryd.prog 78 #[.pointer (some ⟨b, 0, none⟩), .int .i64 r, .int .i64 a] w
      fun e w' => e = .returned (.tuple #[]) ∧ Led b (x.refuse r a).ls w' ∧ w.grownBy w' (some b) :=
  (refuse_calls b x.ls r a w h (by simp [St.ls, hr]) rfl).mono fun e w' ⟨he, hL, hg⟩ =>
    ⟨he, by
      have e1 : (x.refuse r a).ls = { x.ls with r := r, a := a, br := 1, d := 1 } := by simp [St.refuse, St.ls, hr, r0]
      rw [e1]; exact hL, hg⟩

set_option maxRecDepth 100000 in
theorem work_yes (b : Nat) (x : St) (n : Int) (w : World) (h : Led b x.ls w) (ok : x.Ok) (hr : x.r = 0) (n0 : 0 ≤ n) (hn : n ≤ x.s - x.st) :
    Calls Tryd.prog 72 #[.pointer (some ⟨b, 0, none⟩), .int .i64 n] w
      fun e w' => e = .returned (.bool true) ∧ Led b ({ x with st := x.st + n } : St).ls w' ∧ w.grownBy w' (some b) := by
  have KB := Lib.hid (broken_calls b _ w h)
  have c2 := (h.c 3).trans (show x.ls.cells[3]? = some (.int .i64 x.s) by simp [LS.cells, St.ls])
  have hbr : (x.ls.br != 0) = false := by simp [St.ls, hr]
  have KG := Lib.hid (growS b x.ls n x.s w.drew h.drew ok.t0 ok.ts ok.s1 n0 hn)
  clear h hr ok
  go_enter Tryd.func72, Tryd.ntmps72
  go_wp2_with (go_at_call 63; refine KB.out.mono ?_; rintro e w' ⟨rfl, rfl⟩)
  go_region_with (go_at_call 77; refine KG.out.mono ?_; rintro e w3 ⟨rfl, L3, g3⟩; have H3 := Lib.hid L3; have G3 := Lib.hid g3; clear L3 g3)
  go_wp2
  go_ret
  exact ⟨rfl, H3.out, gb_trans (gb_drew _ _) G3.out⟩

set_option maxRecDepth 100000 in
theorem work_no (b : Nat) (x : St) (n : Int) (w : World) (h : Led b x.ls w) (ok : x.Ok) (hr : x.r = 0) (hn : n < 0 ∨ x.s - x.st < n) :
    Calls Tryd.prog 72 #[.pointer (some ⟨b, 0, none⟩), .int .i64 n] w
      fun e w' => e = .returned (.bool false) ∧ Led b (x.refuse 3 n).ls w' ∧ w.grownBy w' (some b) := by
  have KB := Lib.hid (broken_calls b _ w h)
  have c2 := (h.c 3).trans (show x.ls.cells[3]? = some (.int .i64 x.s) by simp [LS.cells, St.ls])
  have hbr : (x.ls.br != 0) = false := by simp [St.ls, hr]
  have KG := Lib.hid (grow_no ⟨b, 6, none⟩ n x.s x.st w.drew ((h.drew.c 6).trans (by simp [LS.cells, St.ls])) rfl ok.t0 ok.ts ok.s1 hn)
  have KR := Lib.hid (refuse_st b x 3 n w.drew h.drew hr (by decide))
  clear h hr ok hn
  go_enter Tryd.func72, Tryd.ntmps72
  go_wp2_with (go_at_call 63; refine KB.out.mono ?_; rintro e w' ⟨rfl, rfl⟩)
  go_region_with (go_at_call 77; refine KG.out.mono ?_; rintro e w3 ⟨rfl, rfl⟩)
  go_wp2_with fail
  refine KR.out.mono ?_
  rintro e w4 ⟨rfl, L4, g4⟩
  have H4 := Lib.hid L4
  have G4 := Lib.hid g4
  clear L4 g4
  go_wp2
  go_ret
  exact ⟨rfl, H4.out, gb_trans (gb_drew _ _) G4.out⟩

theorem work_broken (b : Nat) (x : St) (n : Int) (w : World) (h : Led b x.ls w) (hr : x.r ≠ 0) :
    Calls Tryd.prog 72 #[.pointer (some ⟨b, 0, none⟩), .int .i64 n] w
      fun e w' => e = .returned (.bool false) ∧ w = w' := by
  have KB := Lib.hid (broken_calls b _ w h)
  have hbr : (x.ls.br != 0) = true := by simp [St.ls, hr]
  clear h hr
  go_enter Tryd.func72, Tryd.ntmps72
  go_wp2_with (go_at_call 63; refine KB.out.mono ?_; rintro e w' ⟨rfl, rfl⟩)
  go_ret
  exact ⟨rfl, rfl⟩

/-- Work, of any number, at any state. -/
theorem work_calls (b : Nat) (x : St) (n : Int) (w : World) (h : Led b x.ls w) (ok : x.Ok) :
    Calls Tryd.prog 72 #[.pointer (some ⟨b, 0, none⟩), .int .i64 n] w
      fun e w' => e = .returned (.bool (x.work n).2) ∧ Led b (x.work n).1.ls w' ∧ w.grownBy w' (some b) := by
  unfold St.work
  by_cases hr : x.r = 0
  · rw [if_neg (by simpa using hr)]
    by_cases hn : n < 0 ∨ x.s - x.st < n
    · rw [if_pos hn]; exact work_no b x n w h ok hr hn
    · rw [if_neg hn]; exact work_yes b x n w h ok hr (by omega) (by omega)
  · rw [if_pos hr]
    exact (work_broken b x n w h hr).mono fun e w' ⟨he, hw⟩ => ⟨he, hw ▸ h, hw ▸ gb_refl _ _⟩
end Go.Proofs.YtikjfmpdfeaooaaDoor.Le

/- Package ledger: giving back, sides, the first refusal told, the budget, a new ledger. -/
namespace Go.Proofs.YtikjfmpdfeaooaaDoor.Le
open Go.ChangeShapes Go.WideShapes Go.ChangeAt Go.RowKit
set_option linter.unusedVariables false

def pos (v : Int) : Int := if v < 0 then 0 else v
def St.new (w h b s : Int) : St := { w := pos w, h := pos h, b := pos b, s := pos s, by_ := 0, pk := 0, st := 0, r := 0, a := 0 }
theorem blk_new (w : World) (C : Array Value) (t : TypeId) : (w.alloc (.cells C t)).heap[w.heap.size]? = some (.cells C t (0, 0)) := by
  show (w.heap.push _)[w.heap.size]? = _
  rw [Array.getElem?_push_size]

theorem new_led (w : World) (o : Obj) (C : Array Value) (S : LS) (e : C = S.cells) : Led (w.heap.size + 1) S ((w.alloc o).alloc (.cells C 98)) := by
  have h := blk_new (w.alloc o) C 98
  rw [show (w.alloc o).heap.size = w.heap.size + 1 from by show (w.heap.push o).size = _; simp] at h
  rw [e] at h
  exact e ▸ h

theorem new_calls (p q r s : Int) (w : World) :
    Calls Tryd.prog 20 #[.agg #[.int .i64 p, .int .i64 q, .int .i64 r, .int .i64 s]] w
      fun e w' => ∃ b, e = .returned (.pointer (some ⟨b, 0, none⟩)) ∧ Led b (St.new p q r s).ls w' ∧ w.grownBy w' none ∧ w.heap.size ≤ b := by
  go_enter Tryd.func20, Tryd.ntmps20
  go_wp2
  all_goals go_ret
  all_goals refine ⟨w.heap.size + 1, rfl, ?_, gb_trans (World.grownBy_alloc _ _ _) (World.grownBy_alloc _ _ _), by omega⟩
  all_goals refine new_led _ _ _ _ ?_
  all_goals simp [LS.cells, St.ls, St.new, pos, *]
  all_goals omega
end Go.Proofs.YtikjfmpdfeaooaaDoor.Le

/- Which blocks a call may have turned; blocks that were there ahead of it, and those that it makes (over a ledger's texts). -/
namespace Go.Proofs.YtikjfmpdfeaooaaDoor.Le
open Go.ChangeShapes Go.WideShapes Go.ChangeAt Go.RowKit
set_option linter.unusedVariables false

/-- Of what was there, only the blocks S may have turned. -/
structure Tn (w w' : World) (S : List Nat) : Prop where
  os : w'.os = w.os
  tape : w'.tape = w.tape
  output : w'.output = w.output
  size : w.heap.size ≤ w'.heap.size
  block : ∀ k, k < w.heap.size → k ∉ S → w'.heap[k]? = w.heap[k]?
theorem Tn.trans {a b c : World} {S : List Nat} (h : Tn a b S) (k : Tn b c S) : Tn a c S :=
  ⟨k.os.trans h.os, k.tape.trans h.tape, k.output.trans h.output, Nat.le_trans h.size k.size, fun i hi hr => (k.block i (Nat.lt_of_lt_of_le hi h.size) hr).trans (h.block i hi hr)⟩
theorem Tn.mono {a b : World} {S R : List Nat} (h : Tn a b S) (k : ∀ x, x ∈ S → x ∈ R) : Tn a b R := ⟨h.os, h.tape, h.output, h.size, fun i hi hr => h.block i hi (fun hs => hr (k i hs))⟩
theorem Tn.gb {a b : World} {r : Option Nat} {S : List Nat} (h : a.grownBy b r) (k : ∀ x, some x = r → x ∈ S) : Tn a b S := ⟨h.os, h.tape, h.output, h.size, fun i hi hr => h.block i hi (fun e => hr (k i e))⟩
theorem Tn.set (w : World) (b o : Nat) (v : Value) {S : List Nat} (h : b ∈ S) : Tn w (w.setCell ⟨b, o, none⟩ v) S := Tn.gb (gb_set w b o v) (fun x e => by simp at e; exact e ▸ h)
theorem Tn.drew (w : World) (S : List Nat) : Tn w w.drew S := ⟨rfl, rfl, rfl, Nat.le_refl _, fun _ _ _ => rfl⟩
/-- What was made behind w0 may turn. -/
theorem Tn.own {w0 w w' : World} {r : Option Nat} {S : List Nat} (g : w0.grownBy w r) (h : Tn w w' S) (k : ∀ x, x ∈ S → w0.heap.size ≤ x ∨ some x = r) : w0.grownBy w' r :=
  ⟨h.os.trans g.os, h.tape.trans g.tape, h.output.trans g.output, Nat.le_trans g.size h.size, fun i hi hr => (h.block i (Nat.lt_of_lt_of_le hi g.size) (fun hs => by
    rcases k i hs with h1 | h1
    · omega
    · exact hr h1)).trans (g.block i hi hr)⟩

theorem blk_other {w : World} {b c o : Nat} {v : Value} {x : Option Obj} (h : w.heap[b]? = x) (hne : b ≠ c) : (w.setCell ⟨c, o, none⟩ v).heap[b]? = x :=
  (show _ = w.heap[b]? from Below.heap_setCell _ _ _ _ hne).trans h

theorem gb_drewN (w : World) (n : Nat) (r : Option Nat) : w.grownBy (w.drewN n) r := ⟨rfl, rfl, rfl, Nat.le_refl _, fun _ _ _ => rfl⟩
theorem size_alloc (w : World) (o : Obj) : (w.alloc o).heap.size = w.heap.size + 1 := by show (w.heap.push o).size = _; simp
theorem blk_at {w : World} {o : Obj} : (w.alloc o).heap[w.heap.size]? = some o := by
  show (w.heap.push _)[w.heap.size]? = _
  rw [Array.getElem?_push_size]
theorem blk_al {w : World} {b : Nat} {x : Obj} (h : w.heap[b]? = some x) (o : Obj) : (w.alloc o).heap[b]? = some x := (Below.heap_alloc w o b (blk_lt h)).trans h

section
variable {w w' : World} {r : Option Nat} {o1 o2 o3 : Obj}
theorem old0 (g : w.grownBy w' r) {b : Nat} {x : Option Obj} (h : w.heap[b]? = x) (hb : b < w.heap.size) (hr : some b ≠ r) : w'.heap[b]? = x := (g.block b hb hr).trans h
theorem old1 (g : (w.alloc o1).grownBy w' r) (hr : some w.heap.size ≠ r) : w'.heap[w.heap.size]? = some o1 := (g.block _ (by rw [size_alloc]; omega) hr).trans blk_at
end

theorem gb_own {a b c : World} {k : Nat} (h : a.grownBy b none) (hk : a.heap.size ≤ k) (g : b.grownBy c (some k)) : a.grownBy c none :=
  ⟨g.os.trans h.os, g.tape.trans h.tape, g.output.trans h.output, Nat.le_trans h.size g.size,
    fun i hi _ => (g.block i (Nat.lt_of_lt_of_le hi h.size) (by simp; omega)).trans (h.block i hi (by simp))⟩

theorem Led.turned {b : Nat} {S : LS} {w w' : World} {R : List Nat} (h : Led b S w) (k : Tn w w' R) (hb : b ∉ R) : Led b S w' := (k.block b h.lt hb).trans h
theorem Led.oth {b c o : Nat} {v : Value} {S : LS} {w : World} (h : Led b S w) (hne : b ≠ c) : Led b S (w.setCell ⟨c, o, none⟩ v) := blk_other h hne

section
variable {a b c : World} {S R : List Nat} {o : Obj}
theorem Tn.st {k i : Nat} {v : Value} (h : Tn a b S) (hk : k ∈ S) : Tn a (b.setCell ⟨k, i, none⟩ v) S := h.trans (Tn.set _ _ _ _ hk)
theorem Tn.al (h : Tn a b S) : Tn a (b.alloc o) S := h.trans (Tn.gb (World.grownBy_alloc _ _ none) (by simp))
theorem Tn.dr (h : Tn a b S) : Tn a b.drew S := h.trans (Tn.drew _ _)
theorem Tn.dn {n : Nat} (h : Tn a b S) : Tn a (b.drewN n) S := h.trans (Tn.gb (gb_drewN _ _ none) (by simp))
theorem Tn.over (h : Tn a b S) (k : Tn b c R) (hr : ∀ x, x ∈ R → a.heap.size ≤ x ∨ x ∈ S) : Tn a c S :=
  ⟨k.os.trans h.os, k.tape.trans h.tape, k.output.trans h.output, Nat.le_trans h.size k.size, fun i hi hs => (k.block i (Nat.lt_of_lt_of_le hi h.size) (fun hR => by
    rcases hr i hR with h1 | h1
    · omega
    · exact hs h1)).trans (h.block i hi hs)⟩
end

end Go.Proofs.YtikjfmpdfeaooaaDoor.Le

/- Package src: a source in memory; its places told; a reading's step. -/
namespace Go.Proofs.YtikjfmpdfeaooaaDoor.Sr
open Go.ChangeShapes Go.WideShapes Go.ChangeAt Go.RowKit
open Go.Proofs.YtikjfmpdfeaooaaDoor.Le
set_option linter.unusedVariables false

/-- The cells of a source of the ledger l over the text s, at p, from f to t. -/
def SC (l : Nat) (s : ByteArray) (p f t : Nat) : Array Value := #[.pointer (some ⟨l, 0, none⟩), .string s, .int .i64 p, .int .i64 f, .int .i64 t]

/-- Block b is a source of the ledger l over the text s, at p, from f to t. -/
structure So (b l : Nat) (s : ByteArray) (p f t : Nat) (w : World) : Prop where
  blk : w.heap[b]? = some (.cells (SC l s p f t) 56 (0, 0))
  bl : b ≠ l
  fp : f ≤ p
  pt : p ≤ t
  ts : t ≤ s.size
  big : s.size ≤ 9223372036854775807

section
variable {b l : Nat} {s : ByteArray} {p f t : Nat} {w w' : World}
theorem So.lt (h : So b l s p f t w) : b < w.heap.size := blk_lt h.blk
theorem So.grown {r : Option Nat} (h : So b l s p f t w) (k : w.grownBy w' r) (h1 : some b ≠ r) : So b l s p f t w' :=
  ⟨(k.block b h.lt h1).trans h.blk, h.bl, h.fp, h.pt, h.ts, h.big⟩
theorem So.turned {S : List Nat} (h : So b l s p f t w) (k : Tn w w' S) (h1 : b ∉ S) : So b l s p f t w' :=
  ⟨(k.block b h.lt h1).trans h.blk, h.bl, h.fp, h.pt, h.ts, h.big⟩
theorem So.c0 (h : So b l s p f t w) : w.cell? ⟨b, 0, none⟩ = some (.pointer (some ⟨l, 0, none⟩)) := blk_cell h.blk 0
theorem So.c1 (h : So b l s p f t w) : w.cell? ⟨b, 1, none⟩ = some (.string s) := blk_cell h.blk 1
theorem So.c2 (h : So b l s p f t w) : w.cell? ⟨b, 2, none⟩ = some (.int .i64 p) := blk_cell h.blk 2
theorem So.c3 (h : So b l s p f t w) : w.cell? ⟨b, 3, none⟩ = some (.int .i64 f) := blk_cell h.blk 3
theorem So.c4 (h : So b l s p f t w) : w.cell? ⟨b, 4, none⟩ = some (.int .i64 t) := blk_cell h.blk 4
theorem So.free (h : So b l s p f t w) (o : Nat) : w.frozen? ⟨b, o, none⟩ = false := blk_free h.blk o
/-- The place is set. -/
theorem So.set (h : So b l s p f t w) (q : Nat) (h1 : f ≤ q) (h2 : q ≤ t) : So b l s q f t (w.setCell ⟨b, 2, none⟩ (.int .i64 q)) :=
  ⟨blk_set h.blk 2 (.int .i64 q), h.bl, h1, h2, h.ts, h.big⟩
end

theorem at_calls (b l : Nat) (s : ByteArray) (p f t : Nat) (w : World) (h : So b l s p f t w) :
    Calls Tryd.prog 13 #[.pointer (some ⟨b, 0, none⟩)] w fun e w' => e = .returned (.int .i64 p) ∧ w = w' := by
  have c := h.c2
  clear h
  go_enter Tryd.func13, Tryd.ntmps13
  go_wp2
  go_ret
  exact ⟨rfl, rfl⟩

theorem left_calls (b l : Nat) (s : ByteArray) (p f t : Nat) (w : World) (h : So b l s p f t w) :
    Calls Tryd.prog 73 #[.pointer (some ⟨b, 0, none⟩)] w fun e w' => e = .returned (.int .i64 ((t : Int) - p)) ∧ ∃ n, w' = w.drewN n := by
  have c := h.c2
  have d := h.c4
  have h1 := h.pt
  have h2 := h.ts
  have h3 := h.big
  clear h
  go_enter Tryd.func73, Tryd.ntmps73
  go_wp2_with fail
  go_quiet (fail)
  go_wp2
  go_ret
  exact ⟨rfl, _, rfl⟩

/-- Do n bytes stand from the place on? -/
def canB (p t : Nat) (n : Int) : Bool := decide (0 ≤ n) && decide (n ≤ (t : Int) - p)

set_option maxRecDepth 100000 in
theorem reach_calls (b l : Nat) (s : ByteArray) (p f t : Nat) (x : St) (n : Int) (w : World) (h : So b l s p f t w) (hl : Led l x.ls w) (ok : x.Ok) :
    Calls Tryd.prog 68 #[.pointer (some ⟨b, 0, none⟩), .int .i64 n] w
      fun e w' => e = .returned (.bool ((x.work 1).2 && canB p t n)) ∧ Led l (x.work 1).1.ls w' ∧ w.grownBy w' (some l) := by
  have c := h.c0
  have K := work_calls l x 1 w hl ok
  have KL := fun w' (g : w.grownBy w' (some l)) => left_calls b l s p f t w' (h.grown g (by simpa using h.bl))
  obtain ⟨r, hr⟩ : ∃ r, (x.work 1).2 = r := ⟨_, rfl⟩
  rw [hr] at K ⊢
  have hK := Lib.hid K
  have hKL := Lib.hid KL
  clear K KL h hl ok hr
  cases r with
  | false =>
    go_enter Tryd.func68, Tryd.ntmps68
    go_wp2_with fail
    refine hK.out.mono ?_
    rintro e w1 ⟨rfl, L, g⟩
    have HL := Lib.hid L
    have HG := Lib.hid g
    clear L g
    go_wp2
    go_ret
    exact ⟨rfl, HL.out, HG.out⟩
  | true =>
    by_cases h0 : 0 ≤ n
    · have e1 : (true && canB p t n) = decide (n ≤ (t : Int) - p) := by simp [canB, h0]
      rw [e1]
      clear e1
      go_enter Tryd.func68, Tryd.ntmps68
      go_wp2_with fail
      refine hK.out.mono ?_
      rintro e w1 ⟨rfl, L, g⟩
      have HL := Lib.hid L
      have HG := Lib.hid g
      clear L g
      go_wp2_with fail
      refine (hKL.out _ HG.out).mono ?_
      rintro e w2 ⟨rfl, nq, rfl⟩
      go_wp2
      go_ret
      exact ⟨rfl, HL.out, gb_trans HG.out (gb_drewN _ _ _)⟩
    · have e1 : (true && canB p t n) = false := by simp [canB, h0]
      have h0' : n < 0 := by omega
      rw [e1]
      clear e1 h0
      go_enter Tryd.func68, Tryd.ntmps68
      go_wp2_with fail
      refine hK.out.mono ?_
      rintro e w1 ⟨rfl, L, g⟩
      have HL := Lib.hid L
      have HG := Lib.hid g
      clear L g
      go_wp2
      go_ret
      exact ⟨rfl, HL.out, HG.out⟩

end Go.Proofs.YtikjfmpdfeaooaaDoor.Sr

/- Package src: further, bytes, the byte at the place, a place, a window, why a reading failed, a new source. -/
namespace Go.Proofs.YtikjfmpdfeaooaaDoor.Sr
open Go.ChangeShapes Go.WideShapes Go.ChangeAt Go.RowKit
open Go.Proofs.YtikjfmpdfeaooaaDoor.Le
set_option linter.unusedVariables false

/-- Does a reading of n bytes come? -/
def rdB (x : St) (p t : Nat) (n : Int) : Bool := (x.work 1).2 && canB p t n
theorem can_of {p t : Nat} {n : Int} (h : canB p t n = true) : 0 ≤ n ∧ n ≤ (t : Int) - p := by simpa [canB] using h
theorem rd_of {x : St} {p t : Nat} {n : Int} (h : rdB x p t n = true) : (x.work 1).2 = true ∧ 0 ≤ n ∧ n ≤ (t : Int) - p := by
  unfold rdB at h
  rw [Bool.and_eq_true] at h
  exact ⟨h.1, can_of h.2⟩

set_option maxRecDepth 100000 in
theorem skip_no (b l : Nat) (s : ByteArray) (p f t : Nat) (x : St) (n : Int) (w : World) (h : So b l s p f t w) (hl : Led l x.ls w) (ok : x.Ok) (hn : rdB x p t n = false) :
    Calls Tryd.prog 62 #[.pointer (some ⟨b, 0, none⟩), .int .i64 n] w
      fun e w' => e = .returned (.bool false) ∧ (So b l s p f t w' ∧ Led l (x.work 1).1.ls w') ∧ w.grownBy w' (some l) := by
  have K := reach_calls b l s p f t x n w h hl ok
  rw [show ((x.work 1).2 && canB p t n) = false from hn] at K
  have hK := Lib.hid K
  have H := Lib.hid h
  clear K h hl ok hn
  go_enter Tryd.func62, Tryd.ntmps62
  go_wp2_with fail
  refine hK.out.mono ?_
  rintro e w1 ⟨rfl, L, g⟩
  have HL := Lib.hid L
  have HG := Lib.hid g
  clear L g
  go_wp2
  go_ret
  exact ⟨rfl, ⟨H.out.grown HG.out (by simpa using H.out.bl), HL.out⟩, HG.out⟩

set_option maxRecDepth 100000 in
theorem skip_yes (b l : Nat) (s : ByteArray) (p f t n : Nat) (x : St) (w : World) (h : So b l s p f t w) (hl : Led l x.ls w) (ok : x.Ok) (hn : rdB x p t n = true) :
    Calls Tryd.prog 62 #[.pointer (some ⟨b, 0, none⟩), .int .i64 n] w
      fun e w' => e = .returned (.bool true) ∧ (So b l s (p + n) f t w' ∧ Led l (x.work 1).1.ls w') ∧ Tn w w' [b, l] := by
  have K := reach_calls b l s p f t x n w h hl ok
  rw [show ((x.work 1).2 && canB p t n) = true from hn] at K
  obtain ⟨_, n0, n1⟩ := rd_of hn
  have hK := Lib.hid K
  have H := Lib.hid h
  have h1 := h.pt
  have h2 := h.ts
  have h3 := h.big
  have h4 := h.fp
  clear K h hl ok hn
  go_enter Tryd.func62, Tryd.ntmps62
  go_wp2_with fail
  refine hK.out.mono ?_
  rintro e w1 ⟨rfl, L, g⟩
  have H1 := H.out.grown g (by simpa using H.out.bl)
  have c2 := H1.c2
  have z2 := H1.free 2
  have HL := Lib.hid L
  have HG := Lib.hid g
  have HS := Lib.hid H1
  clear L g H1
  go_wp2
  go_ret
  exact ⟨rfl, ⟨HS.out.set (p + n) (by omega) (by omega), HL.out.oth HS.out.bl.symm⟩, (Tn.gb HG.out (by simp)).trans (Tn.set _ _ _ _ (by simp))⟩

theorem cut_at (s : ByteArray) (p n : Nat) (h : p + n ≤ s.size) (w : World) :
    (Instr.slice 9 (.string s) (some (.int .i64 (p : Int))) (some (.int .i64 ((p : Int) + n))) none).run Tryd.prog w = .ok (.string (s.extract p (p + n))) w := by
  have ht' : Tryd.prog.underlying 9 = some .string := by kernel_rfl
  have e : ((p : Int) + n).toNat = p + n := by omega
  simp [Instr.slice, run_underlying ht', Instr.sliceBounds, run_sliceBound, Result.andThen, show (p : Int) + n ≤ s.size by omega, show (0 : Int) ≤ p + n by omega, e]
  rw [run_sliceBound _ _ _ _ _ (by omega) (by omega)]
  simp

set_option maxRecDepth 100000 in
theorem take_no (b l : Nat) (s : ByteArray) (p f t : Nat) (x : St) (n : Int) (w : World) (h : So b l s p f t w) (hl : Led l x.ls w) (ok : x.Ok) (hn : rdB x p t n = false) :
    Calls Tryd.prog 42 #[.pointer (some ⟨b, 0, none⟩), .int .i64 n] w
      fun e w' => e = .returned (.tuple #[.string ⟨#[]⟩, .bool false]) ∧ (So b l s p f t w' ∧ Led l (x.work 1).1.ls w') ∧ w.grownBy w' (some l) := by
  have hK := Lib.hid (skip_no b l s p f t x n w h hl ok hn)
  have c2 := h.c2
  clear h hl ok hn
  go_enter Tryd.func42, Tryd.ntmps42
  go_wp2_with fail
  refine hK.out.mono ?_
  rintro e w1 ⟨rfl, L, g⟩
  have HL := Lib.hid L
  have HG := Lib.hid g
  clear L g
  go_wp2
  go_ret2
  exact ⟨rfl, HL.out, HG.out⟩

set_option maxRecDepth 100000 in
theorem take_yes (b l : Nat) (s : ByteArray) (p f t n : Nat) (x : St) (w : World) (h : So b l s p f t w) (hl : Led l x.ls w) (ok : x.Ok) (hn : rdB x p t n = true) :
    Calls Tryd.prog 42 #[.pointer (some ⟨b, 0, none⟩), .int .i64 n] w
      fun e w' => e = .returned (.tuple #[.string (s.extract p (p + n)), .bool true]) ∧ (So b l s (p + n) f t w' ∧ Led l (x.work 1).1.ls w') ∧ Tn w w' [b, l] := by
  have hK := Lib.hid (skip_yes b l s p f t n x w h hl ok hn)
  obtain ⟨_, n0, n1⟩ := rd_of hn
  have c2 := h.c2
  have h1 := h.pt
  have h2 := h.ts
  have h3 := h.big
  have hc := cut_at s p n (by omega)
  clear h hl ok hn
  go_enter Tryd.func42, Tryd.ntmps42
  go_wp2_with fail
  refine hK.out.mono ?_
  rintro e w1 ⟨rfl, L, g⟩
  have d1 := L.1.c1
  have d2 : w1.cell? ⟨b, 2, none⟩ = some (.int .i64 ((p : Int) + n)) := by
    have := L.1.c2
    rwa [show ((p + n : Nat) : Int) = (p : Int) + n from by omega] at this
  have HL := Lib.hid L
  have HG := Lib.hid g
  clear L g
  go_wp2_with fail
  go_quiet (fail)
  go_wp2
  go_ret2
  exact ⟨rfl, ⟨HL.out.1.grown (gb_drewN _ _ none) (by simp), HL.out.2⟩, HG.out.trans (Tn.gb (gb_drewN _ _ none) (by simp))⟩

theorem seek_yes (b l : Nat) (s : ByteArray) (p f t q : Nat) (w : World) (h : So b l s p f t w) (h1 : f ≤ q) (h2 : q ≤ t) :
    Calls Tryd.prog 9 #[.pointer (some ⟨b, 0, none⟩), .int .i64 q] w fun e w' => e = .returned (.bool true) ∧ So b l s q f t w' ∧ w.grownBy w' (some b) := by
  have d3 := h.c3
  have d4 := h.c4
  have d2 := h.c2
  have z2 := h.free 2
  have H := Lib.hid h
  clear h
  go_enter Tryd.func9, Tryd.ntmps9
  go_wp2
  go_ret
  exact ⟨rfl, H.out.set q h1 h2, gb_set _ _ _ _⟩

end Go.Proofs.YtikjfmpdfeaooaaDoor.Sr

/- Package src: a window, why a reading failed, a new source. -/
namespace Go.Proofs.YtikjfmpdfeaooaaDoor.Sr
open Go.ChangeShapes Go.WideShapes Go.ChangeAt Go.RowKit
open Go.Proofs.YtikjfmpdfeaooaaDoor.Le
set_option linter.unusedVariables false

theorem fault_calls (b l : Nat) (s : ByteArray) (p f t : Nat) (x : St) (k : Int) (w : World) (h : So b l s p f t w) (hl : Led l x.ls w) :
    Calls Tryd.prog 43 #[.pointer (some ⟨b, 0, none⟩), .int .i64 k] w
      fun e w' => e = .returned (if x.r = 0 then .agg #[.int .i64 1, .int .i64 k, .int .i64 t] else .agg #[.int .i64 4, .int .i64 k, .int .i64 p]) ∧ w.grownBy w' none := by
  have d0 := h.c0
  have d2 := h.c2
  have d4 := h.c4
  have hb := h.lt
  have hB := hl.lt
  have K := broken_calls l x.ls (w.alloc (.cells #[.int .i64 0, .int .i64 0, .int .i64 0] 33)) (hl.alloc _)
  clear h hl
  by_cases hr : x.r = 0
  · rw [if_pos hr]
    rw [show (x.ls.br != 0) = false from by simp [St.ls, hr]] at K
    have hK := Lib.hid K
    clear K hr
    go_enter Tryd.func43, Tryd.ntmps43
    go_wp2_with (go_at_call 63; refine hK.out.mono ?_; rintro e w' ⟨rfl, rfl⟩)
    refine bodyPost_ret (v := .agg #[.int .i64 1, .int .i64 k, .int .i64 t]) (by simp [results, Tryd.results43, go_sem]) rfl ⟨rfl, World.grownBy_alloc _ _ _⟩
  · rw [if_neg hr]
    rw [show (x.ls.br != 0) = true from by simp [St.ls, hr]] at K
    have hK := Lib.hid K
    clear K hr
    go_enter Tryd.func43, Tryd.ntmps43
    go_wp2_with (go_at_call 63; refine hK.out.mono ?_; rintro e w' ⟨rfl, rfl⟩)
    refine bodyPost_ret (v := .agg #[.int .i64 4, .int .i64 k, .int .i64 p]) (by simp [results, Tryd.results43, go_sem]) rfl ⟨rfl, World.grownBy_alloc _ _ _⟩

theorem snew_calls (l : Nat) (s : ByteArray) (w : World) (hs : s.size ≤ 9223372036854775807) :
    Calls Tryd.prog 19 #[.pointer (some ⟨l, 0, none⟩), .string s] w
      fun e w' => ∃ c, e = .returned (.tuple #[.pointer (some ⟨c, 0, none⟩), .int .i64 0]) ∧ (l < w.heap.size → So c l s 0 0 s.size w') ∧ w.grownBy w' none ∧ w.heap.size ≤ c := by
  go_enter Tryd.func19, Tryd.ntmps19
  go_wp2
  go_ret2
  refine ⟨w.heap.size, rfl, fun hl => ⟨?_, by omega, Nat.le_refl _, Nat.zero_le _, Nat.le_refl _, hs⟩, World.grownBy_alloc _ _ _, Nat.le_refl _⟩
  exact blk_new w (SC l s 0 0 s.size) 56

end Go.Proofs.YtikjfmpdfeaooaaDoor.Sr

/- In a seat that holds the ledger's texts: XTnL stands in for XTn. -/
