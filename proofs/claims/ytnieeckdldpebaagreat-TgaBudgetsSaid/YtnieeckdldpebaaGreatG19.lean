/- Texts of one kind, one behind the other: PalH, PalI, PalJ, PalK, PalL, PalM. -/
import Derived.Test.YtnieeckdldpebaaGreatG01
import Derived.Test.YtnieeckdldpebaaGreatG16
import Derived.Test.YtnieeckdldpebaaGreatG17
import Derived.Test.YtnieeckdldpebaaGreatG18
/- Layer 10: a palette in memory; New; PaletteNew, walked. -/
namespace Go.Proofs.YtnieeckdldpebaaGreat.Pa
open Go.ChangeShapes Go.WideShapes Go.ChangeAt Go.RowKit
open Go.Proofs.YtnieeckdldpebaaGreat.Sc Go.Proofs.YtnieeckdldpebaaGreat.Le
set_option linter.unusedVariables false

/-- The cells of a palette whose bytes are buffer b, and which has n entries. -/
def palCells (b : Nat) (n : Int) : Array Value := #[.pointer (some ⟨b, 0, none⟩), .int .i64 n]

theorem new_spent (l : Nat) (x : St) (most : Nat) (W : World) (h : Led l x.ls W) (ok : x.Ok) (h1 : 1 ≤ most) (h2 : most ≤ 65536) (hr : (x.take ((4 * most : Nat) : Int)).2 = false) :
    Calls Tryz.prog 124 #[.pointer (some ⟨l, 0, none⟩), .int .i64 most] W
      fun e w' => e = .returned (.tuple #[.pointer none, .int .i64 4]) ∧ Led l (x.take ((4 * most : Nat) : Int)).1.ls w' ∧ W.grownBy w' (some l) := by
  have K := Bu.make_spent l x ((4 * most : Nat) : Int) W h ok (by omega) hr
  have e4 : ((4 * most : Nat) : Int) = 4 * (most : Int) := by omega
  rw [e4] at K ⊢
  obtain ⟨L, hL⟩ : ∃ L, (x.take (4 * (most : Int))).1.ls = L := ⟨_, rfl⟩
  rw [hL] at K ⊢
  have K' := Lib.hid K
  clear K h ok hr e4 hL
  go_enter Tryz.func124, Tryz.ntmps124
  go_wp2_with fail
  refine K'.out.mono ?_
  rintro e w1 ⟨rfl, h1, g1⟩
  have H := Lib.hid (And.intro h1 g1)
  clear h1 g1
  go_wp2
  go_ret2
  exact ⟨rfl, H.out⟩

theorem new_yes (l : Nat) (x : St) (most : Nat) (W : World) (h : Led l x.ls W) (ok : x.Ok) (h1 : 1 ≤ most) (h2 : most ≤ 65536) (hr : (x.take ((4 * most : Nat) : Int)).2 = true) :
    Calls Tryz.prog 124 #[.pointer (some ⟨l, 0, none⟩), .int .i64 most] W
      fun e w' => ∃ p b g, e = .returned (.tuple #[.pointer (some ⟨p, 0, none⟩), .int .i64 0]) ∧ (w'.heap[p]? = some (.cells (palCells b 0) 160 (0, 0)) ∧ Bu.BOpen b l g (Bu.rep 0 (4 * most)) w' ∧ Led l (x.take ((4 * most : Nat) : Int)).1.ls w') ∧ W.grownBy w' (some l) ∧ W.heap.size ≤ p ∧ W.heap.size ≤ b ∧ W.heap.size ≤ g ∧ p ≠ b ∧ p ≠ g := by
  have K := Bu.make_yes l x (4 * most) W h ok (by omega) hr
  have hl := h.lt
  have e4 : ((4 * most : Nat) : Int) = 4 * (most : Int) := by omega
  rw [e4] at K ⊢
  obtain ⟨L, hL⟩ : ∃ L, (x.take (4 * (most : Int))).1.ls = L := ⟨_, rfl⟩
  rw [hL] at K ⊢
  have K' := Lib.hid K
  clear K h ok hr e4 hL
  go_enter Tryz.func124, Tryz.ntmps124
  go_wp2_with fail
  refine K'.out.mono ?_
  rintro e w1 ⟨b, g, rfl, ⟨ho, hL⟩, g1, hb, hg⟩
  have HO := Lib.hid ho
  have HL := Lib.hid hL
  have HG := Lib.hid g1
  have hbl := ho.lt
  have hgl := ho.glt
  clear ho hL g1
  go_wp2
  go_ret2
  have ga := World.grownBy_alloc w1 (.cells #[.pointer (some ⟨b, 0, none⟩), .int .i64 0] 160) none
  exact ⟨w1.heap.size, b, g, rfl, ⟨blk_at, HO.out.grown ga (by simp) (by simp), HL.out.grown ga (by simp)⟩, gb_trans HG.out (gb_any ga _), HG.out.size, hb, hg, by omega, by omega⟩

end Go.Proofs.YtnieeckdldpebaaGreat.Pa

/- Layer 10: PaletteNew, walked. -/
namespace Go.Proofs.YtnieeckdldpebaaGreat.Pa
open Go.ChangeShapes Go.WideShapes Go.ChangeAt Go.RowKit
open Go.Proofs.YtnieeckdldpebaaGreat.Sc Go.Proofs.YtnieeckdldpebaaGreat.Le
set_option linter.unusedVariables false

theorem pos_lt {p a : Int} (h : 1 ≤ a) : pos p < a ↔ p < a := by unfold pos; split <;> omega
theorem take_ok (m n : Int) (n1 : 1 ≤ n) (h : n ≤ m) : ((St.new 0 0 m 0).take n).2 = true ∧ ((St.new 0 0 m 0).take n).1.ls.by_ = n := by
  unfold St.take
  have y : ¬ (n < 0 ∨ (St.new 0 0 m 0).b - (St.new 0 0 m 0).by_ < n) := by
    rintro (h' | h')
    · omega
    · have h2 : pos m - 0 < n := h'
      have := (pos_lt (p := m) n1).1 (by omega)
      omega
  rw [if_neg (show ¬ (St.new 0 0 m 0).r ≠ 0 from fun h => h rfl), if_neg y]
  exact ⟨rfl, by show (0 : Int) + n = n; omega⟩

end Go.Proofs.YtnieeckdldpebaaGreat.Pa

/- Layer 10: a palette's room, Add, Of, Free, walked. -/
namespace Go.Proofs.YtnieeckdldpebaaGreat.Pa
open Go.ChangeShapes Go.WideShapes Go.ChangeAt Go.RowKit
open Go.Proofs.YtnieeckdldpebaaGreat.Sc Go.Proofs.YtnieeckdldpebaaGreat.Le
set_option linter.unusedVariables false

/-- A palette in memory: block p, buffer b of ledger l, its bytes S in block g; n entries of most. -/
structure Po (p b l g : Nat) (n most : Nat) (S : ByteArray) (w : World) : Prop where
  blk : w.heap[p]? = some (.cells (palCells b n) 160 (0, 0))
  buf : Bu.BOpen b l g S w
  size : S.size = 4 * most
  le : n ≤ most
  big : most ≤ 65536
  pb : p ≠ b
  pl : p ≠ l
  pg : p ≠ g

theorem Po.grown {p b l g n most : Nat} {S : ByteArray} {w w' : World} {r : Option Nat} (h : Po p b l g n most S w) (k : w.grownBy w' r) (h1 : some p ≠ r) (h2 : some b ≠ r) (h3 : some g ≠ r) : Po p b l g n most S w' :=
  ⟨(k.block p (blk_lt h.blk) h1).trans h.blk, h.buf.grown k h2 h3, h.size, h.le, h.big, h.pb, h.pl, h.pg⟩
theorem Po.c0 {p b l g n most : Nat} {S : ByteArray} {w : World} (h : Po p b l g n most S w) : w.cell? ⟨p, 0, none⟩ = some (.pointer (some ⟨b, 0, none⟩)) := blk_cell h.blk 0
theorem Po.c1 {p b l g n most : Nat} {S : ByteArray} {w : World} (h : Po p b l g n most S w) : w.cell? ⟨p, 1, none⟩ = some (.int .i64 n) := blk_cell h.blk 1

theorem len_quiet (b l g : Nat) (S : ByteArray) (m : Nat) (W : World) (k : Nat) (h : Bu.BOpen b l g S W) (hs : S.size = 4 * m) :
    Calls Tryz.prog 147 #[.pointer (some ⟨b, 0, none⟩)] (W.drewN k) fun e w' => e = .returned (.int .i64 (4 * (m : Int))) ∧ w' = W.drewN k := by
  have K := Bu.len_calls b l g true S (W.drewN k) (.inl ⟨rfl, h.grown (gb_drewN W k none) (by simp) (by simp)⟩)
  have e : ((S.size : Nat) : Int) = 4 * (m : Int) := by omega
  rw [e] at K
  exact K.mono (fun _ _ ⟨a, b⟩ => ⟨a, b.symm⟩)

set_option maxRecDepth 100000 in
theorem room_calls (p b l g n most : Nat) (S : ByteArray) (W : World) (h : Po p b l g n most S W) :
    Calls Tryz.prog 146 #[.pointer (some ⟨p, 0, none⟩)] W fun e w' => e = .returned (.int .i64 ((most : Int) - n)) ∧ W.grownBy w' none := by
  have c0 := h.c0
  have c1 := h.c1
  have hle := h.le
  have hbig := h.big
  have KQ := Lib.hid (fun k => len_quiet b l g S most W k h.buf h.size)
  have q1 : (4 * (most : Int)).tdiv 4 = most := by rw [Int.tdiv_eq_ediv_of_nonneg (by omega)]; omega
  have q2 : IntKind.i64.wrap (most : Int) = most := by rw [IntKind.wrap_i64]; omega
  have q3 : IntKind.i64.wrap ((most : Int) - n) = (most : Int) - n := by rw [IntKind.wrap_i64]; omega
  clear h
  go_enter Tryz.func146, Tryz.ntmps146
  go_wp2
  go_quiet ((go_at_call 147; exact Calls.quiet_of_same (KQ.out _)))
  go_wp2
  go_ret
  exact ⟨rfl, gb_drewN _ _ _⟩

end Go.Proofs.YtnieeckdldpebaaGreat.Pa

/- Layer 10: a palette's Add where there is room, walked (written by wip/gen/pal_add.py). -/
namespace Go.Proofs.YtnieeckdldpebaaGreat.Pa
open Go.ChangeShapes Go.WideShapes Go.ChangeAt Go.RowKit
open Go.Proofs.YtnieeckdldpebaaGreat.Sc Go.Proofs.YtnieeckdldpebaaGreat.Le
set_option linter.unusedVariables false

/-- Four bytes. -/
def four (p q r t : UInt8) : ByteArray := ⟨#[p, q, r, t]⟩
theorem four_size (p q r t : UInt8) : (four p q r t).size = 4 := rfl
theorem bys_four (p q r t : UInt8) : Bu.bys (four p q r t) = #[.int .u8 (p.toNat : Int), .int .u8 (q.toNat : Int), .int .u8 (r.toNat : Int), .int .u8 (t.toNat : Int)] := rfl
theorem conv_four (p q r t : UInt8) (W : World) (k : Nat) (hb : W.heap[k]? = some (.cells #[.int .u8 (p.toNat : Int), .int .u8 (q.toNat : Int), .int .u8 (r.toNat : Int), .int .u8 (t.toNat : Int)] 5 (0, 0))) :
    (convert 25 9 (.slice (some ⟨k, 0, none⟩) 4 4)).run Tryz.prog W = .ok (.string (four p q r t)) W := by
  have hc : Lib.Bytes W k 0 (four p q r t) := by
    intro i hi
    rw [Nat.zero_add]
    rw [← bys_four] at hb
    exact (blk_cell hb i).trans (Bu.bys_at _ i hi)
  have h := Lib.run_convert_whole (P := Tryz.prog) W 25 5 9 Bu.und8 (by kernel_rfl) (by kernel_rfl) k 0 (four p q r t) hc 4
  rw [four_size] at h
  exact h

set_option maxRecDepth 100000 in
set_option maxHeartbeats 1000000 in
theorem add_yes (p b l g n most : Nat) (S : ByteArray) (p0 p1 p2 p3 : UInt8) (W : World) (h : Po p b l g n most S W) (hn : n < most) :
    Calls Tryz.prog 148 #[.pointer (some ⟨p, 0, none⟩), .agg #[.int .u8 (p0.toNat : Int), .int .u8 (p1.toNat : Int), .int .u8 (p2.toNat : Int), .int .u8 (p3.toNat : Int)]] W
      fun e w' => e = .returned (.bool true) ∧ Po p b l g (n + 1) most (Bu.putS S (four p0 p1 p2 p3) (4 * n)) w' ∧ Tn W w' [p, g] := by
  have hin : 4 * n + 4 ≤ S.size := by have := h.size; omega
  have KR := fun u (hu : Po p b l g n most S u) => room_calls p b l g n most S u hu
  have e0 : (((most : Int) - n) == 0) = false := by rw [beq_eq_false_iff_ne]; omega
  obtain ⟨rm, hrm⟩ : ∃ r, (most : Int) - n = r := ⟨_, rfl⟩
  simp only [hrm] at KR
  rw [hrm] at e0
  have hcv := conv_four p0 p1 p2 p3
  have P := fun w h => Bu.put_yes b l g S (four p0 p1 p2 p3) (4 * n) w h (by rw [four_size]; exact hin)
  have e4 : ((4 * n : Nat) : Int) = 4 * (n : Int) := by omega
  simp only [e4] at P
  obtain ⟨z, hz⟩ : ∃ z, four p0 p1 p2 p3 = z := ⟨_, rfl⟩
  have hz4 : z.size = 4 := by rw [← hz]; rfl
  rw [hz] at hcv P ⊢
  have nbig : (n : Int) ≤ 65536 := by have := h.big; omega
  have hle : n + 1 ≤ most := hn
  have P' := Lib.hid P
  have KR' := Lib.hid KR
  have H := Lib.hid h
  obtain ⟨x0, f0⟩ : ∃ x : Int, (p0.toNat : Int) = x := ⟨_, rfl⟩
  obtain ⟨x1, f1⟩ : ∃ x : Int, (p1.toNat : Int) = x := ⟨_, rfl⟩
  obtain ⟨x2, f2⟩ : ∃ x : Int, (p2.toNat : Int) = x := ⟨_, rfl⟩
  obtain ⟨x3, f3⟩ : ∃ x : Int, (p3.toNat : Int) = x := ⟨_, rfl⟩
  rw [f0, f1, f2, f3] at hcv ⊢
  have HCV := Lib.hid hcv
  have HF := Lib.hid (show ∀ (w2 w6 : World) (C : Obj), W.grownBy w2 none → Bu.BOpen b l g (Bu.putS S z (4 * n)) w6 → ((w2.alloc C).drew).grownBy w6 (some g) →
      Bu.BOpen b l g (Bu.putS S z (4 * n)) w6 ∧ w6.heap[p]? = some (.cells (palCells b n) 160 (0, 0)) ∧ W.grownBy w6 (some g) from
    fun w2 w6 C k BO kk => by
      have t := gb_trans (gb_any (gb_trans (gb_trans k (World.grownBy_alloc _ _ none)) (gb_drew _ none)) (some g)) kk
      exact ⟨BO, (t.block p (blk_lt h.blk) (by simpa using h.pg)).trans h.blk, t⟩)
  have HE := Lib.hid (show ∀ w6 : World, Bu.BOpen b l g (Bu.putS S z (4 * n)) w6 → w6.heap[p]? = some (.cells (palCells b n) 160 (0, 0)) → W.grownBy w6 (some g) →
      Po p b l g (n + 1) most (Bu.putS S z (4 * n)) (w6.setCell ⟨p, 1, none⟩ (.int .i64 ((n : Int) + 1))) ∧ Tn W (w6.setCell ⟨p, 1, none⟩ (.int .i64 ((n : Int) + 1))) [p, g] from
    fun w6 BO hp k => ⟨⟨(blk_set hp 1 _).trans rfl, BO.grown (gb_set _ _ _ _) (by simpa using fun e => h.pb e.symm) (by simpa using fun e => h.pg e.symm), by rw [Bu.putS_size _ _ _ (by rw [hz4]; exact hin)]; exact h.size, hle, h.big, h.pb, h.pl, h.pg⟩,
      (Tn.gb k (fun x e => by simp at e; simp [e])).trans (Tn.gb (gb_set _ _ _ _) (fun x e => by simp at e; simp [e]))⟩)
  have plt := blk_lt h.blk
  have glt := h.buf.glt
  have hpg := h.pg
  clear P KR h hz hrm hin e4 f0 f1 f2 f3 hle hcv
  go_enter Tryz.func148, Tryz.ntmps148
  go_wp2_with fail
  have HB0 := Lib.hid (blk_at (w := W) (o := .cells #[.int .u8 x0, .int .u8 x1, .int .u8 x2, .int .u8 x3] 135))
  have HA := Lib.hid (World.grownBy_alloc W (.cells #[.int .u8 x0, .int .u8 x1, .int .u8 x2, .int .u8 x3] 135) none)
  refine (KR'.out _ (H.out.grown HA.out (by simp) (by simp) (by simp))).mono ?_
  rintro e w2 ⟨rfl, g2⟩
  have B2 := old0 g2 HB0.out (blk_lt HB0.out) (by simp)
  have K1 := Lib.hid (gb_trans HA.out g2)
  have d0 : w2.cell? ⟨W.heap.size, 0, none⟩ = some (.int .u8 x0) := blk_cell B2 0
  have d1 : w2.cell? ⟨W.heap.size, 1, none⟩ = some (.int .u8 x1) := blk_cell B2 1
  have d2 : w2.cell? ⟨W.heap.size, 2, none⟩ = some (.int .u8 x2) := blk_cell B2 2
  have d3 : w2.cell? ⟨W.heap.size, 3, none⟩ = some (.int .u8 x3) := blk_cell B2 3
  have d4 : w2.cell? ⟨p, 0, none⟩ = some (.pointer (some ⟨b, 0, none⟩)) := K1.out.cell H.out.c0 (by simp)
  have d5 : w2.cell? ⟨p, 1, none⟩ = some (.int .i64 n) := K1.out.cell H.out.c1 (by simp)
  have glt2 : W.heap.size < w2.heap.size := blk_lt B2
  have glt1 : p < w2.heap.size := by omega
  have cv2 : (convert 25 9 (.slice (some ⟨w2.heap.size, 0, none⟩) 4 4)).run Tryz.prog ((w2.alloc (.cells #[.int .u8 x0, .int .u8 x1, .int .u8 x2, .int .u8 x3] 5)).drew) = .ok (.string z) ((w2.alloc (.cells #[.int .u8 x0, .int .u8 x1, .int .u8 x2, .int .u8 x3] 5)).drew) := HCV.out _ _ (blk_at (w := w2))
  have HS := Lib.hid (show ∀ (C : Obj) (w6 : World), ((w2.alloc C).drew).grownBy w6 (some g) →
      w6.cell? ⟨p, 0, none⟩ = some (.pointer (some ⟨b, 0, none⟩)) ∧ w6.cell? ⟨p, 1, none⟩ = some (.int .i64 n) ∧ w6.cell? ⟨W.heap.size, 0, none⟩ = some (.int .u8 x0) ∧ w6.cell? ⟨W.heap.size, 1, none⟩ = some (.int .u8 x1) ∧ w6.cell? ⟨W.heap.size, 2, none⟩ = some (.int .u8 x2) ∧ w6.cell? ⟨W.heap.size, 3, none⟩ = some (.int .u8 x3) from
    fun C w6 kk => by
      have t := gb_trans (World.grownBy_alloc w2 C none) (gb_drew _ none)
      exact ⟨kk.cell (t.cell d4 (by simp)) (by simpa using hpg), kk.cell (t.cell d5 (by simp)) (by simpa using hpg), kk.cell (t.cell d0 (by simp)) (by simp; omega), kk.cell (t.cell d1 (by simp)) (by simp; omega), kk.cell (t.cell d2 (by simp)) (by simp; omega), kk.cell (t.cell d3 (by simp)) (by simp; omega)⟩)
  have q4 : IntKind.i64.wrap (4 * (n : Int)) = 4 * (n : Int) := by rw [IntKind.wrap_i64]; omega
  clear g2 B2 hpg
  go_wp2_with fail
  refine wp_region_held_drew (S := (fun w' => w'.cell? ⟨p, 0, none⟩ = some (.pointer (some ⟨b, 0, none⟩)) ∧ w'.cell? ⟨p, 1, none⟩ = some (.int .i64 n) ∧ w'.cell? ⟨W.heap.size, 0, none⟩ = some (.int .u8 x0) ∧ w'.cell? ⟨W.heap.size, 1, none⟩ = some (.int .u8 x1) ∧ w'.cell? ⟨W.heap.size, 2, none⟩ = some (.int .u8 x2) ∧ w'.cell? ⟨W.heap.size, 3, none⟩ = some (.int .u8 x3))) (by kernel_rfl) ?_ (fun hHeld => ?_)
  · try dsimp only
    go_keep
  refine wpAnyH_take (i := 0) (oi := { dst := some 8, op := Go.Op.move (Go.Operand.tmp 0), type := 127, pos := "palette.go:59", after := #[], guard := none }) (v := ?v0) rfl (by kernel_rfl) (by kernel_rfl) (by kernel_rfl) (fun _ _ _ h => h) (Or.inl ⟨by rfl, ?hy0⟩) (by assumption) ?rest0
  case hy0 =>
    intro w' hSw
    try dsimp only at hSw
    go_simp
    try with_reducible rfl
  try simp only [Act.put, List.setIfInBounds_toArray, List.set_cons_zero, List.set_cons_succ]
  refine wpAnyH_take (i := 1) (oi := { dst := some 9, op := Go.Op.nilCheck (Go.Operand.tmp 8), type := 0, pos := "palette.go:59", after := #[{ on := 0, ground := Go.Ground.data }], guard := none }) (v := ?v1) rfl (by kernel_rfl) (by kernel_rfl) (by kernel_rfl) (fun _ _ _ h => h) (Or.inl ⟨by rfl, ?hy1⟩) (by assumption) ?rest1
  case hy1 =>
    intro w' hSw
    try dsimp only at hSw
    go_simp
    try with_reducible rfl
  try simp only [Act.put, List.setIfInBounds_toArray, List.set_cons_zero, List.set_cons_succ]
  refine wpAnyH_take (i := 2) (oi := { dst := some 10, op := Go.Op.fieldAddr 160 (Go.Operand.tmp 9) 0, type := 0, pos := "palette.go:59", after := #[{ on := 1, ground := Go.Ground.data }], guard := none }) (v := ?v2) rfl (by kernel_rfl) (by kernel_rfl) (by kernel_rfl) (fun _ _ _ h => h) (Or.inl ⟨by rfl, ?hy2⟩) (by assumption) ?rest2
  case hy2 =>
    intro w' hSw
    try dsimp only at hSw
    go_simp
    try with_reducible rfl
  try simp only [Act.put, List.setIfInBounds_toArray, List.set_cons_zero, List.set_cons_succ]
  refine wpAnyH_take (i := 3) (oi := { dst := some 11, op := Go.Op.load 115 (Go.Operand.tmp 10), type := 115, pos := "palette.go:59", after := #[{ on := 2, ground := Go.Ground.data }], guard := none }) (v := ?v3) rfl (by kernel_rfl) (by kernel_rfl) (by kernel_rfl) (fun _ _ _ h => h) (Or.inl ⟨by rfl, ?hy3⟩) (by assumption) ?rest3
  case hy3 =>
    intro w' hSw
    try dsimp only at hSw
    go_simp
    try with_reducible rfl
  try simp only [Act.put, List.setIfInBounds_toArray, List.set_cons_zero, List.set_cons_succ]
  refine wpAnyH_take (i := 4) (oi := { dst := some 12, op := Go.Op.move (Go.Operand.tmp 0), type := 127, pos := "palette.go:59", after := #[], guard := none }) (v := ?v4) rfl (by kernel_rfl) (by kernel_rfl) (by kernel_rfl) (fun _ _ _ h => h) (Or.inl ⟨by rfl, ?hy4⟩) (by assumption) ?rest4
  case hy4 =>
    intro w' hSw
    try dsimp only at hSw
    go_simp
    try with_reducible rfl
  try simp only [Act.put, List.setIfInBounds_toArray, List.set_cons_zero, List.set_cons_succ]
  refine wpAnyH_take (i := 5) (oi := { dst := some 13, op := Go.Op.nilCheck (Go.Operand.tmp 12), type := 0, pos := "palette.go:59", after := #[{ on := 4, ground := Go.Ground.data }], guard := none }) (v := ?v5) rfl (by kernel_rfl) (by kernel_rfl) (by kernel_rfl) (fun _ _ _ h => h) (Or.inl ⟨by rfl, ?hy5⟩) (by assumption) ?rest5
  case hy5 =>
    intro w' hSw
    try dsimp only at hSw
    go_simp
    try with_reducible rfl
  try simp only [Act.put, List.setIfInBounds_toArray, List.set_cons_zero, List.set_cons_succ]
  refine wpAnyH_take (i := 6) (oi := { dst := some 14, op := Go.Op.fieldAddr 160 (Go.Operand.tmp 13) 1, type := 0, pos := "palette.go:59", after := #[{ on := 5, ground := Go.Ground.data }], guard := none }) (v := ?v6) rfl (by kernel_rfl) (by kernel_rfl) (by kernel_rfl) (fun _ _ _ h => h) (Or.inl ⟨by rfl, ?hy6⟩) (by assumption) ?rest6
  case hy6 =>
    intro w' hSw
    try dsimp only at hSw
    go_simp
    try with_reducible rfl
  try simp only [Act.put, List.setIfInBounds_toArray, List.set_cons_zero, List.set_cons_succ]
  refine wpAnyH_take (i := 7) (oi := { dst := some 15, op := Go.Op.load 3 (Go.Operand.tmp 14), type := 3, pos := "palette.go:59", after := #[{ on := 6, ground := Go.Ground.data }], guard := none }) (v := ?v7) rfl (by kernel_rfl) (by kernel_rfl) (by kernel_rfl) (fun _ _ _ h => h) (Or.inl ⟨by rfl, ?hy7⟩) (by assumption) ?rest7
  case hy7 =>
    intro w' hSw
    try dsimp only at hSw
    go_simp
    try with_reducible rfl
  try simp only [Act.put, List.setIfInBounds_toArray, List.set_cons_zero, List.set_cons_succ]
  refine wpAnyH_take (i := 8) (oi := { dst := some 16, op := Go.Op.binOp Go.BinOp.mul 3 (Go.Operand.const (Go.Value.int Go.IntKind.i64 4)) (Go.Operand.tmp 15) 3, type := 3, pos := "palette.go:59", after := #[{ on := 7, ground := Go.Ground.data }], guard := none }) (v := ?v8) rfl (by kernel_rfl) (by kernel_rfl) (by kernel_rfl) (fun _ _ _ h => h) (Or.inl ⟨by rfl, ?hy8⟩) (by assumption) ?rest8
  case hy8 =>
    intro w' hSw
    try dsimp only at hSw
    go_simp
    try with_reducible rfl
  try simp only [Act.put, List.setIfInBounds_toArray, List.set_cons_zero, List.set_cons_succ]
  refine wpAnyH_take (i := 9) (oi := { dst := some 17, op := Go.Op.fieldAddr 135 (Go.Operand.tmp 3) 0, type := 0, pos := "palette.go:59", after := #[], guard := none }) (v := ?v9) rfl (by kernel_rfl) (by kernel_rfl) (by kernel_rfl) (fun _ _ _ h => h) (Or.inl ⟨by rfl, ?hy9⟩) (by assumption) ?rest9
  case hy9 =>
    intro w' hSw
    try dsimp only at hSw
    go_simp
    try with_reducible rfl
  try simp only [Act.put, List.setIfInBounds_toArray, List.set_cons_zero, List.set_cons_succ]
  refine wpAnyH_take (i := 10) (oi := { dst := some 18, op := Go.Op.load 5 (Go.Operand.tmp 17), type := 5, pos := "palette.go:59", after := #[{ on := 9, ground := Go.Ground.data }], guard := none }) (v := ?v10) rfl (by kernel_rfl) (by kernel_rfl) (by kernel_rfl) (fun _ _ _ h => h) (Or.inl ⟨by rfl, ?hy10⟩) (by assumption) ?rest10
  case hy10 =>
    intro w' hSw
    try dsimp only at hSw
    go_simp
    try with_reducible rfl
  try simp only [Act.put, List.setIfInBounds_toArray, List.set_cons_zero, List.set_cons_succ]
  refine wpAnyH_take (i := 11) (oi := { dst := some 19, op := Go.Op.fieldAddr 135 (Go.Operand.tmp 3) 1, type := 0, pos := "palette.go:59", after := #[], guard := none }) (v := ?v11) rfl (by kernel_rfl) (by kernel_rfl) (by kernel_rfl) (fun _ _ _ h => h) (Or.inl ⟨by rfl, ?hy11⟩) (by assumption) ?rest11
  case hy11 =>
    intro w' hSw
    try dsimp only at hSw
    go_simp
    try with_reducible rfl
  try simp only [Act.put, List.setIfInBounds_toArray, List.set_cons_zero, List.set_cons_succ]
  refine wpAnyH_take (i := 12) (oi := { dst := some 20, op := Go.Op.load 5 (Go.Operand.tmp 19), type := 5, pos := "palette.go:59", after := #[{ on := 11, ground := Go.Ground.data }], guard := none }) (v := ?v12) rfl (by kernel_rfl) (by kernel_rfl) (by kernel_rfl) (fun _ _ _ h => h) (Or.inl ⟨by rfl, ?hy12⟩) (by assumption) ?rest12
  case hy12 =>
    intro w' hSw
    try dsimp only at hSw
    go_simp
    try with_reducible rfl
  try simp only [Act.put, List.setIfInBounds_toArray, List.set_cons_zero, List.set_cons_succ]
  refine wpAnyH_take (i := 13) (oi := { dst := some 21, op := Go.Op.fieldAddr 135 (Go.Operand.tmp 3) 2, type := 0, pos := "palette.go:59", after := #[], guard := none }) (v := ?v13) rfl (by kernel_rfl) (by kernel_rfl) (by kernel_rfl) (fun _ _ _ h => h) (Or.inl ⟨by rfl, ?hy13⟩) (by assumption) ?rest13
  case hy13 =>
    intro w' hSw
    try dsimp only at hSw
    go_simp
    try with_reducible rfl
  try simp only [Act.put, List.setIfInBounds_toArray, List.set_cons_zero, List.set_cons_succ]
  refine wpAnyH_take (i := 14) (oi := { dst := some 22, op := Go.Op.load 5 (Go.Operand.tmp 21), type := 5, pos := "palette.go:59", after := #[{ on := 13, ground := Go.Ground.data }], guard := none }) (v := ?v14) rfl (by kernel_rfl) (by kernel_rfl) (by kernel_rfl) (fun _ _ _ h => h) (Or.inl ⟨by rfl, ?hy14⟩) (by assumption) ?rest14
  case hy14 =>
    intro w' hSw
    try dsimp only at hSw
    go_simp
    try with_reducible rfl
  try simp only [Act.put, List.setIfInBounds_toArray, List.set_cons_zero, List.set_cons_succ]
  refine wpAnyH_take (i := 15) (oi := { dst := some 23, op := Go.Op.fieldAddr 135 (Go.Operand.tmp 3) 3, type := 0, pos := "palette.go:59", after := #[], guard := none }) (v := ?v15) rfl (by kernel_rfl) (by kernel_rfl) (by kernel_rfl) (fun _ _ _ h => h) (Or.inl ⟨by rfl, ?hy15⟩) (by assumption) ?rest15
  case hy15 =>
    intro w' hSw
    try dsimp only at hSw
    go_simp
    try with_reducible rfl
  try simp only [Act.put, List.setIfInBounds_toArray, List.set_cons_zero, List.set_cons_succ]
  refine wpAnyH_take (i := 16) (oi := { dst := some 24, op := Go.Op.load 5 (Go.Operand.tmp 23), type := 5, pos := "palette.go:59", after := #[{ on := 15, ground := Go.Ground.data }], guard := none }) (v := ?v16) rfl (by kernel_rfl) (by kernel_rfl) (by kernel_rfl) (fun _ _ _ h => h) (Or.inl ⟨by rfl, ?hy16⟩) (by assumption) ?rest16
  case hy16 =>
    intro w' hSw
    try dsimp only at hSw
    go_simp
    try with_reducible rfl
  try simp only [Act.put, List.setIfInBounds_toArray, List.set_cons_zero, List.set_cons_succ]
  refine wpAnyH_ready (rs := [17]) (by kernel_rfl) (by simp) ?_
  refine AllReadyH.cons (o := { dst := some 25, op := Go.Op.buildSlice 25 4 #[(0, Go.Operand.tmp 18), (1, Go.Operand.tmp 20), (2, Go.Operand.tmp 22), (3, Go.Operand.tmp 24)], type := 25, pos := "palette.go:59", after := #[{ on := 10, ground := Go.Ground.data }, { on := 12, ground := Go.Ground.data }, { on := 14, ground := Go.Ground.data }, { on := 16, ground := Go.Ground.data }], guard := none }) rfl (fun K hK => ?_) AllReadyH.nil
  go_simp
  refine hK.out _ _ ?_ (fun hHeld2 => ?_)
  · try dsimp only
    go_keep
  clear hHeld
  have hHeld := hHeld2
  clear hK K hHeld2
  try simp only [Act.put, List.setIfInBounds_toArray, List.set_cons_zero, List.set_cons_succ]
  refine wpAnyH_ready (rs := [18]) (by kernel_rfl) (by simp) ?_
  refine AllReadyH.cons (o := { dst := some 26, op := Go.Op.convert 25 9 (Go.Operand.tmp 25), type := 9, pos := "palette.go:59", after := #[{ on := 17, ground := Go.Ground.data }], guard := none }) rfl (fun K hK => ?_) AllReadyH.nil
  go_simp
  refine hK.out _ _ ?_ (fun hHeld2 => ?_)
  · try dsimp only
    go_keep
  clear hHeld
  have hHeld := hHeld2
  clear hK K hHeld2
  try simp only [Act.put, List.setIfInBounds_toArray, List.set_cons_zero, List.set_cons_succ]
  refine wpAnyH_ready (rs := [19]) (by kernel_rfl) (by simp) ?_
  refine AllReadyH.cons (o := { dst := some 27, op := Go.Op.call { callee := Go.Callee.value (Go.Operand.func 165), args := #[Go.Operand.tmp 11, Go.Operand.tmp 16, Go.Operand.tmp 26], argTypes := #[115, 3, 9] }, type := 4, pos := "palette.go:59", after := #[{ on := 3, ground := Go.Ground.data }, { on := 8, ground := Go.Ground.data }, { on := 18, ground := Go.Ground.data }], guard := none }) rfl (fun K hK => ?_) AllReadyH.nil
  go_simp
  refine (P'.out _ (H.out.buf.grown (gb_trans (gb_trans K1.out (World.grownBy_alloc _ _ none)) (gb_drew _ none)) (by simp) (by simp))).mono ?_
  rintro e w6 ⟨rfl, BO, kk⟩
  have HK := Lib.hid (HF.out _ _ _ K1.out BO kk)
  obtain ⟨kk0, kk1, kk2, kk3, kk4, kk5⟩ := HS.out _ _ kk
  clear BO kk
  try go_wp2_with fail
  refine hK.out _ _ ?_ (fun hHeld2 => ?_)
  · try dsimp only
    go_keep
  clear hHeld
  have hHeld := hHeld2
  clear hK K hHeld2
  try simp only [Act.put, List.setIfInBounds_toArray, List.set_cons_zero, List.set_cons_succ]
  refine wpAnyH_done (by kernel_rfl) ?_ _
  all_goals
    have hpf := blk_free HK.out.2.1 1
    go_wp2
    go_ret
    exact ⟨rfl, HE.out _ HK.out.1 HK.out.2.1 HK.out.2.2⟩

end Go.Proofs.YtnieeckdldpebaaGreat.Pa

/- Layer 10: a palette's Of and Free, walked; what a freed one answers. -/
namespace Go.Proofs.YtnieeckdldpebaaGreat.Pa
open Go.ChangeShapes Go.WideShapes Go.ChangeAt Go.RowKit
open Go.Proofs.YtnieeckdldpebaaGreat.Sc Go.Proofs.YtnieeckdldpebaaGreat.Le
set_option linter.unusedVariables false

/-- A byte of a text, as a number. -/
def bt (s : ByteArray) (j : Nat) : Int := ((s.data.toList.getD j 0).toNat : Int)
theorem bt_ext (s z : ByteArray) (i k : Nat) (hz : s.extract i (i + 4) = z) (h : k < z.size) (hk : k < 4) : ((z[k]'h).toNat : Int) = bt s (i + k) := by
  have h1 := Go.Proofs.byte_at z k h
  have h3 : z.data.toList = (s.data.toList.drop i).take (i + 4 - i) := by rw [← hz, Lib.extract_data]
  rw [h3, List.getElem?_take_of_lt (by omega), List.getElem?_drop] at h1
  unfold bt
  rw [List.getD_eq_getElem?_getD, h1]
  rfl

set_option maxRecDepth 100000 in
theorem pof_no (p b : Nat) (n : Nat) (i : Int) (W : World) (h : W.heap[p]? = some (.cells (palCells b n) 160 (0, 0))) (hi : i < 0 ∨ (n : Int) ≤ i) :
    Calls Tryz.prog 167 #[.pointer (some ⟨p, 0, none⟩), .int .i64 i] W
      fun e w' => e = .returned (.tuple #[.agg #[.int .u8 0, .int .u8 0, .int .u8 0, .int .u8 0], .bool false]) ∧ W.grownBy w' none := by
  have c1 : W.cell? ⟨p, 1, none⟩ = some (.int .i64 n) := blk_cell h 1
  have plt := blk_lt h
  have hc : (decide (i < 0) = true) ∨ (decide (i < 0) = false ∧ (n : Int) ≤ i) := by
    by_cases h1 : i < 0
    · exact .inl (decide_eq_true h1)
    · exact .inr ⟨decide_eq_false h1, by omega⟩
  clear h hi
  rcases hc with h1 | ⟨h1, h2⟩
  all_goals
    go_enter Tryz.func167, Tryz.ntmps167
    go_wp2
    refine bodyPost_ret (v := .tuple #[.agg #[.int .u8 0, .int .u8 0, .int .u8 0, .int .u8 0], .bool false]) (by rw [results_cell_tmp (fn := Tryz.f167) rfl]; go_simp) rfl ⟨rfl, ?_⟩
    exact World.grownBy_alloc _ _ _

set_option maxRecDepth 100000 in
theorem pof_yes (p b l g n most i : Nat) (S : ByteArray) (W : World) (h : Po p b l g n most S W) (hi : i < n) :
    Calls Tryz.prog 167 #[.pointer (some ⟨p, 0, none⟩), .int .i64 i] W
      fun e w' => e = .returned (.tuple #[.agg #[.int .u8 (bt S (4 * i)), .int .u8 (bt S (4 * i + 1)), .int .u8 (bt S (4 * i + 2)), .int .u8 (bt S (4 * i + 3))], .bool true]) ∧ W.grownBy w' none := by
  have hin : 4 * i + 4 ≤ S.size := by have := h.size; have := h.le; omega
  have P := fun w h => Bu.get_yes b l g S (4 * i) 4 w h hin
  have e4 : ((4 * i : Nat) : Int) = 4 * (i : Int) := by omega
  have e5 : ((4 : Nat) : Int) = 4 := rfl
  simp only [e4, e5] at P
  obtain ⟨z, hz⟩ : ∃ z, S.extract (4 * i) (4 * i + 4) = z := ⟨_, rfl⟩
  have hz4 : z.size = 4 := by rw [← hz, ByteArray.size_extract]; omega
  have t0 := bt_ext S z (4 * i) 0 hz (by omega) (by omega)
  have t1 := bt_ext S z (4 * i) 1 hz (by omega) (by omega)
  have t2 := bt_ext S z (4 * i) 2 hz (by omega) (by omega)
  have t3 := bt_ext S z (4 * i) 3 hz (by omega) (by omega)
  rw [Nat.add_zero] at t0
  simp only [hz] at P
  have P' := Lib.hid P
  have H := Lib.hid h
  obtain ⟨x0, e0⟩ : ∃ x, bt S (4 * i) = x := ⟨_, rfl⟩
  obtain ⟨x1, e1⟩ : ∃ x, bt S (4 * i + 1) = x := ⟨_, rfl⟩
  obtain ⟨x2, e2⟩ : ∃ x, bt S (4 * i + 2) = x := ⟨_, rfl⟩
  obtain ⟨x3, e3⟩ : ∃ x, bt S (4 * i + 3) = x := ⟨_, rfl⟩
  rw [e0] at t0 ⊢
  rw [e1] at t1 ⊢
  rw [e2] at t2 ⊢
  rw [e3] at t3 ⊢
  have c0 := h.c0
  have c1 := h.c1
  have plt := blk_lt h.blk
  have nbig : (i : Int) ≤ 65536 := by have := h.big; have := h.le; omega
  have hin' : (i : Int) < n := by omega
  have d0 : decide ((i : Int) < 0) = false := decide_eq_false (by omega)
  have d1 : decide ((n : Int) ≤ (i : Int)) = false := decide_eq_false (by omega)
  have d2 : decide (n ≤ i) = false := decide_eq_false (by omega)
  clear P h hin e4 e5 hz e0 e1 e2 e3
  go_enter Tryz.func167, Tryz.ntmps167
  go_wp2_with fail
  have hR : (W.alloc (.cells #[.int .u8 0, .int .u8 0, .int .u8 0, .int .u8 0] 135)).heap[W.heap.size]? = some (.cells #[.int .u8 0, .int .u8 0, .int .u8 0, .int .u8 0] 135 (0, 0)) := blk_at
  have hG := World.grownBy_alloc W (.cells #[.int .u8 0, .int .u8 0, .int .u8 0, .int .u8 0] 135) none
  generalize W.alloc (.cells #[.int .u8 0, .int .u8 0, .int .u8 0, .int .u8 0] 135) = w1 at hR hG ⊢
  have q0 : w1.cell? ⟨W.heap.size, 0, none⟩ = some (.int .u8 0) := blk_cell hR 0
  have q1 : w1.cell? ⟨W.heap.size, 1, none⟩ = some (.int .u8 0) := blk_cell hR 1
  have q2 : w1.cell? ⟨W.heap.size, 2, none⟩ = some (.int .u8 0) := blk_cell hR 2
  have q3 : w1.cell? ⟨W.heap.size, 3, none⟩ = some (.int .u8 0) := blk_cell hR 3
  have f0 := blk_free hR 0
  have f1 := blk_free hR 1
  have f2 := blk_free hR 2
  have f3 := blk_free hR 3
  have HG := Lib.hid hG
  have Ph := Lib.hid (P'.out w1 (H.out.buf.grown hG (by simp) (by simp)))
  clear hR hG
  refine Ph.out.mono ?_
  rintro e w' ⟨rfl, rfl⟩
  go_wp2_with fail
  go_region
  go_wp2
  refine bodyPost_ret (v := .tuple #[.agg #[.int .u8 x0, .int .u8 x1, .int .u8 x2, .int .u8 x3], .bool true]) (by rw [results_cell_tmp (fn := Tryz.f167) rfl]; go_simp) rfl ⟨rfl, ?_⟩
  exact gb_trans (gb_own (gb_own (gb_own (gb_own HG.out (Nat.le_refl _) (gb_set _ _ _ _)) (Nat.le_refl _) (gb_set _ _ _ _)) (Nat.le_refl _) (gb_set _ _ _ _)) (Nat.le_refl _) (gb_set _ _ _ _)) (gb_drew _ _)

theorem tn_of {a b : World} {S : List Nat} (h : Bu.Tn a b S) : Tn a b S := ⟨h.os, h.tape, h.output, h.size, h.block⟩

set_option maxRecDepth 100000 in
theorem pfree_yes (p b l g n most : Nat) (S : ByteArray) (x : St) (W : World) (h : Po p b l g n most S W) (hl : Led l x.ls W) (ok : x.Ok) :
    Calls Tryz.prog 56 #[.pointer (some ⟨p, 0, none⟩)] W
      fun e w' => e = .returned (.bool true) ∧ (w'.heap[p]? = some (.cells (palCells b 0) 160 (0, 0)) ∧ Bu.BShut b l w' ∧ Led l (x.give S.size).1.ls w') ∧ Tn W w' [p, b, l] := by
  have c0 := h.c0
  have c1 := h.c1
  have pf := blk_free h.blk 1
  have hp : (W.setCell ⟨p, 1, none⟩ (.int .i64 0)).heap[p]? = some (.cells (palCells b 0) 160 (0, 0)) := (blk_set h.blk 1 _).trans rfl
  have K := Lib.hid (Bu.free_yes b l g S x (W.setCell ⟨p, 1, none⟩ (.int .i64 0)) (h.buf.grown (gb_set _ _ _ _) (by simpa using fun e => h.pb e.symm) (by simpa using fun e => h.pg e.symm)) (hl.grown (gb_set _ _ _ _) (by simpa using fun e => h.pl e.symm)) ok)
  have HP := Lib.hid hp
  have hpb := h.pb
  have hpl := h.pl
  clear h hl ok hp
  go_enter Tryz.func56, Tryz.ntmps56
  go_wp2_with fail
  refine K.out.mono ?_
  rintro e w1 ⟨rfl, ⟨h1, h2⟩, t⟩
  have HX := Lib.hid (show w1.heap[p]? = some (.cells (palCells b 0) 160 (0, 0)) from (t.block p (blk_lt HP.out) (by simp [hpb, hpl])).trans HP.out)
  have HY := Lib.hid (And.intro h1 h2)
  have HT := Lib.hid ((Tn.set W p 1 (.int .i64 0) (S := [p, b, l]) (by simp)).trans ((tn_of t).mono (by simp)))
  clear h1 h2 t
  go_wp2
  go_ret
  exact ⟨rfl, ⟨HX.out, HY.out⟩, HT.out⟩

end Go.Proofs.YtnieeckdldpebaaGreat.Pa

/- Layer 10: entries of a text, one behind the other; a palette's entries; Add, by its entries. -/
namespace Go.Proofs.YtnieeckdldpebaaGreat.Pa
open Go.ChangeShapes Go.WideShapes Go.ChangeAt Go.RowKit
open Go.Proofs.YtnieeckdldpebaaGreat.Sc Go.Proofs.YtnieeckdldpebaaGreat.Le
set_option linter.unusedVariables false

theorem bt_bd (s : ByteArray) (j : Nat) : 0 ≤ bt s j ∧ bt s j ≤ 255 := by
  have := (s.data.toList.getD j 0).toNat_lt
  unfold bt
  omega
theorem bt_cut (s z : ByteArray) (o e k : Nat) (hz : s.extract o e = z) (h : k < z.size) (hk : o + k < e) : ((z[k]'h).toNat : Int) = bt s (o + k) := by
  have h1 := Go.Proofs.byte_at z k h
  have h3 : z.data.toList = (s.data.toList.drop o).take (e - o) := by rw [← hz, Lib.extract_data]
  rw [h3, List.getElem?_take_of_lt (by omega), List.getElem?_drop] at h1
  unfold bt
  rw [List.getD_eq_getElem?_getD, h1]
  rfl

/-- The entry of kind t + 2 at a place of a text, channel by channel. -/
def entAt (t : Nat) (s : ByteArray) (o j : Nat) : Int :=
  if t = 0 then (if j = 0 then near ((bt s o + 256 * bt s (o + 1)) / 1024 % 32) 31 else if j = 1 then near ((bt s o + 256 * bt s (o + 1)) / 32 % 32) 31 else if j = 2 then near ((bt s o + 256 * bt s (o + 1)) % 32) 31 else 255)
  else (if j = 0 then bt s (o + 2) else if j = 1 then bt s (o + 1) else if j = 2 then bt s o else if t = 3 then bt s (o + 3) else 255)
theorem entAt_bd (t : Nat) (s : ByteArray) (o j : Nat) : 0 ≤ entAt t s o j ∧ entAt t s o j ≤ 255 := by
  have nb : ∀ v : Int, 0 ≤ v → v ≤ 31 → 0 ≤ near v 31 ∧ near v 31 ≤ 255 := fun v h0 h1 => ⟨near_0 (by decide) h0, near_255 (by decide) h1⟩
  have b0 := bt_bd s o
  have b1 := bt_bd s (o + 1)
  unfold entAt
  split
  · split
    · exact nb _ (by omega) (by omega)
    · split
      · exact nb _ (by omega) (by omega)
      · split
        · exact nb _ (by omega) (by omega)
        · decide
  · split
    · exact bt_bd _ _
    · split
      · exact bt_bd _ _
      · split
        · exact bt_bd _ _
        · split
          · exact bt_bd _ _
          · decide

/-- Entries of a palette's bytes. -/
def EntOf (S : ByteArray) (n : Nat) (D : Nat → Nat → Int) : Prop := ∀ i, i < n → ∀ j, j < 4 → bt S (4 * i + j) = D i j

theorem bt_put (S z : ByteArray) (i a : Nat) (hz : z.size = 4) (hi : i + 4 ≤ S.size) : bt (Bu.putS S z i) a = if i ≤ a ∧ a < i + 4 then bt z (a - i) else bt S a := by
  have hS : S.data.toList.length = S.size := by rw [Lib.size_eq]
  have hzl : z.data.toList.length = 4 := by rw [← Lib.size_eq]; exact hz
  have ht : (S.data.toList.take i).length = i := by rw [List.length_take, hS]; omega
  unfold bt
  rw [Bu.putS_list, hz, List.getD_eq_getElem?_getD, List.getD_eq_getElem?_getD, List.getD_eq_getElem?_getD]
  by_cases h : i ≤ a ∧ a < i + 4
  · rw [if_pos h, List.getElem?_append_left (by rw [List.length_append, ht, hzl]; omega), List.getElem?_append_right (by rw [ht]; omega), ht]
  · rw [if_neg h]
    by_cases h1 : a < i
    · rw [List.append_assoc, List.getElem?_append_left (by rw [ht]; exact h1), List.getElem?_take_of_lt h1]
    · rw [List.getElem?_append_right (by rw [List.length_append, ht, hzl]; omega), List.length_append, ht, hzl, List.getElem?_drop, show i + 4 + (a - (i + 4)) = a from by omega]

theorem bt_four (p q r t : UInt8) : bt (four p q r t) 0 = p.toNat ∧ bt (four p q r t) 1 = q.toNat ∧ bt (four p q r t) 2 = r.toNat ∧ bt (four p q r t) 3 = t.toNat := ⟨rfl, rfl, rfl, rfl⟩

theorem ent_add {S : ByteArray} {n : Nat} {D : Nat → Nat → Int} {p q r t : UInt8} (h : EntOf S n D) (hi : 4 * n + 4 ≤ S.size) (h0 : D n 0 = p.toNat) (h1 : D n 1 = q.toNat) (h2 : D n 2 = r.toNat) (h3 : D n 3 = t.toNat) :
    EntOf (Bu.putS S (four p q r t) (4 * n)) (n + 1) D := by
  intro i hi' j hj
  rw [bt_put S (four p q r t) (4 * n) (4 * i + j) (four_size _ _ _ _) hi]
  by_cases hn : i = n
  · subst hn
    rw [if_pos (by omega), show 4 * i + j - 4 * i = j from by omega]
    obtain ⟨b0, b1, b2, b3⟩ := bt_four p q r t
    obtain rfl | rfl | rfl | rfl : j = 0 ∨ j = 1 ∨ j = 2 ∨ j = 3 := by omega
    · rw [b0, h0]
    · rw [b1, h1]
    · rw [b2, h2]
    · rw [b3, h3]
  · rw [if_neg (by omega)]
    exact h i (by omega) j hj

/-- Behind Add, where there is room. -/
def AddPost (p b l g n most : Nat) (D : Nat → Nat → Int) (W : World) (e : Ending) (w' : World) : Prop := e = .returned (.bool true) ∧ ∃ S, Po p b l g (n + 1) most S w' ∧ EntOf S (n + 1) D ∧ Tn W w' [p, g]

theorem u8_is (c : Int) (h0 : 0 ≤ c) (h1 : c ≤ 255) : ((UInt8.ofNat c.toNat).toNat : Int) = c := by
  rw [UInt8.toNat_ofNat']
  omega

theorem add_is (p b l g n most : Nat) (S : ByteArray) (D : Nat → Nat → Int) (c0 c1 c2 c3 : Int) (W : World) (h : Po p b l g n most S W) (hn : n < most) (hE : EntOf S n D)
    (a0 : 0 ≤ c0 ∧ c0 ≤ 255) (a1 : 0 ≤ c1 ∧ c1 ≤ 255) (a2 : 0 ≤ c2 ∧ c2 ≤ 255) (a3 : 0 ≤ c3 ∧ c3 ≤ 255) (h0 : D n 0 = c0) (h1 : D n 1 = c1) (h2 : D n 2 = c2) (h3 : D n 3 = c3) :
    Calls Tryz.prog 148 #[.pointer (some ⟨p, 0, none⟩), .agg #[.int .u8 c0, .int .u8 c1, .int .u8 c2, .int .u8 c3]] W (AddPost p b l g n most D W) := by
  have K := add_yes p b l g n most S (UInt8.ofNat c0.toNat) (UInt8.ofNat c1.toNat) (UInt8.ofNat c2.toNat) (UInt8.ofNat c3.toNat) W h hn
  have e0 := u8_is c0 a0.1 a0.2
  have e1 := u8_is c1 a1.1 a1.2
  have e2 := u8_is c2 a2.1 a2.2
  have e3 := u8_is c3 a3.1 a3.2
  have hi : 4 * n + 4 ≤ S.size := by have := h.size; omega
  have HE := ent_add (p := UInt8.ofNat c0.toNat) (q := UInt8.ofNat c1.toNat) (r := UInt8.ofNat c2.toNat) (t := UInt8.ofNat c3.toNat) hE hi (by rw [e0, h0]) (by rw [e1, h1]) (by rw [e2, h2]) (by rw [e3, h3])
  rw [e0, e1, e2, e3] at K
  exact K.mono (fun e w' ⟨he, hp, ht⟩ => ⟨he, _, hp, HE, ht⟩)

/-- The entry of a cut of a text, by the code's reading. -/
theorem packed_at (s z : ByteArray) (o : Nat) (W : World) (hz : s.extract o (o + 2) = z) (ho : o + 2 ≤ s.size) (hm : s.size ≤ 9223372036854775807) :
    Calls Tryz.prog 149 #[.string z] W fun e w' => e = .returned (.agg #[.int .u8 (entAt 0 s o 0), .int .u8 (entAt 0 s o 1), .int .u8 (entAt 0 s o 2), .int .u8 (entAt 0 s o 3)]) ∧ W.grownBy w' none := by
  have hzs : z.size = 2 := by rw [← hz, ByteArray.size_extract]; omega
  have K := packed_calls z _ _ W (by omega) (by omega) rfl rfl
  rw [bt_cut s z o (o + 2) 0 hz (by omega) (by omega), bt_cut s z o (o + 2) 1 hz (by omega) (by omega), Nat.add_zero] at K
  exact K
theorem opaque_at (t : Nat) (ht : t = 1 ∨ t = 2) (s z : ByteArray) (o n : Nat) (W : World) (hn : 3 ≤ n) (hz : s.extract o (o + n) = z) (ho : o + n ≤ s.size) (hm : s.size ≤ 9223372036854775807) :
    Calls Tryz.prog 150 #[.string z] W fun e w' => e = .returned (.agg #[.int .u8 (entAt t s o 0), .int .u8 (entAt t s o 1), .int .u8 (entAt t s o 2), .int .u8 (entAt t s o 3)]) ∧ W.grownBy w' none := by
  have hzs : z.size = n := by rw [← hz, ByteArray.size_extract]; omega
  have K := opaque_calls z (bt s o) (bt s (o + 1)) (bt s (o + 2)) W (by omega) (by omega) (bt_cut s z o (o + n) 0 hz (by omega) (by omega)) (bt_cut s z o (o + n) 1 hz (by omega) (by omega)) (bt_cut s z o (o + n) 2 hz (by omega) (by omega))
  rcases ht with rfl | rfl <;> exact K
theorem whole_at (s z : ByteArray) (o : Nat) (W : World) (hz : s.extract o (o + 4) = z) (ho : o + 4 ≤ s.size) (hm : s.size ≤ 9223372036854775807) :
    Calls Tryz.prog 151 #[.string z] W fun e w' => e = .returned (.agg #[.int .u8 (entAt 3 s o 0), .int .u8 (entAt 3 s o 1), .int .u8 (entAt 3 s o 2), .int .u8 (entAt 3 s o 3)]) ∧ W.grownBy w' none := by
  have hzs : z.size = 4 := by rw [← hz, ByteArray.size_extract]; omega
  exact whole_calls z (bt s o) (bt s (o + 1)) (bt s (o + 2)) (bt s (o + 3)) W (by omega) (by omega) (bt_cut s z o (o + 4) 0 hz (by omega) (by omega)) (bt_cut s z o (o + 4) 1 hz (by omega) (by omega)) (bt_cut s z o (o + 4) 2 hz (by omega) (by omega)) (bt_cut s z o (o + 4) 3 hz (by omega) (by omega))

end Go.Proofs.YtnieeckdldpebaaGreat.Pa
