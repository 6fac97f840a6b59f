/- Layer 5's law: the byte at the place. -/
import Derived.Test.YtdcmbjhjfdjdhaaSrcP5
import Derived.Deep.RegionHeld3
namespace Go.Proofs.Ytdcmbjhjfdjdhaa.Sr
open Go.ChangeShapes Go.WideShapes Go.ChangeAt Go.RowKit
open Go.Proofs.Ytdcmbjhjfdjdhaa.Le
set_option linter.unusedVariables false

theorem abs_w' {Q R : World → Prop} {w : World} (h : R w) (k : ∀ w', R w' → Q w') : Q w := k w h
theorem num_one (s : ByteArray) (p : Nat) (h : p < s.size) : (numV false (s.extract p (p + 1)) : Int) = (s[p].toNat : Int) := by
  have e : (s.extract p (p + 1)).data.toList = [s[p]] := by
    rw [Lib.extract_data, show p + 1 - p = 1 from by omega, List.drop_eq_getElem_cons (by rw [← Lib.size_eq]; exact h), byte_at' s p h]
    rfl
  unfold numV
  rw [e]
  simp [ordd, acc]

set_option maxRecDepth 100000 in
set_option maxHeartbeats 8000000 in
theorem one_peek_yes (b l : Nat) (s : ByteArray) (p f t : Nat) (x : St) (n m : Int) (w : World) (h : SL b l s p f t x w) (hr : rdB x p t 1 = true) :
    Calls Try.prog 13 #[.pointer (some ⟨b, 0, none⟩), .agg (SAc s p f t x), .agg #[.int .i64 8, .int .i64 n, .int .i64 m]] w (OneP b l s w) := by
  have hp : p < s.size := by have := rd_of hr; have := h.so.ts; omega
  have N := read_is_yes (n := 1) h hr
  have hz := part_size s p 1 (by omega)
  have hv := num_one s p hp
  obtain ⟨z, hzz⟩ : ∃ z, s.extract p (p + 1) = z := ⟨_, rfl⟩
  rw [hzz] at N hz hv
  have KL := fun w => rle_calls z w (by omega)
  have K := fun w (h : SL b l s p f t x w) => peek_yes b l s p f t x w h.so h.led h.ok hr hp
  obtain ⟨V, hV⟩ : ∃ V : Int, (s[p].toNat : Int) = V := ⟨_, rfl⟩
  rw [hv, hV] at KL
  rw [hV] at K
  have KL := Lib.hid KL
  clear hv hV hzz hz hp hr
  have HOK := Lib.hid (h.ok.work 1)
  obtain ⟨y, hy⟩ : ∃ y, (x.work 1).1 = y := ⟨_, rfl⟩
  unfold ReadIs SAc at N
  rw [hy] at N K HOK
  have hK := Lib.hid K
  have HN := Lib.hid N
  have hb := h.so.lt
  have hl := h.led.lt
  have H := Lib.hid h
  clear h hy K N
  unfold SAc
  go_enter Try.func13, Try.ntmps13
  go_wp2_with fail
  refine (hK.out _ ((((H.out.grown (World.grownBy_alloc _ _ none)).grown (World.grownBy_alloc _ _ none)).grown (World.grownBy_alloc _ _ none)))).mono ?_
  rintro e w1 ⟨rfl, ⟨S1, L1⟩, g1⟩
  have g1 := Tn.gb g1 (S := [b, l]) (by simp)
  have bX := tn3a g1 (by simp; omega)
  have bO := tn3b g1 (by simp; omega)
  have bR := tn3c g1 (by simp; omega)
  have G1 := Lib.hid ((Tn.refl w [b, l]).al.al.al.trans g1)
  have S1' := Lib.hid (show SL b l s p f t y w1 from ⟨S1, L1, HOK.out⟩)
  have hb1 := S1.lt
  have hl1 := L1.lt
  clear S1 L1 g1 H hK
  have x0 := blk_cell bX 0
  have x1 := blk_cell bX 1
  have x2 := blk_cell bX 2
  have x3 := blk_cell bX 3
  have x4 := blk_cell bX 4
  have x5 := blk_cell bX 5
  have x6 := blk_cell bX 6
  have x7 := blk_cell bX 7
  have x8 := blk_cell bX 8
  have x9 := blk_cell bX 9
  have x10 := blk_cell bX 10
  have x11 := blk_cell bX 11
  have x12 := blk_cell bX 12
  simp only [List.getElem?_toArray, List.getElem?_cons_succ, List.getElem?_cons_zero] at x0 x1 x2 x3 x4 x5 x6 x7 x8 x9 x10 x11 x12
  go_wp2_with fail
  refine (HN.out _).mono ?_
  rintro e w2 ⟨rfl, g2⟩
  have bR2 := old0 g2 bR (blk_lt bR) (by simp)
  have bX2 := old0 g2 bX (blk_lt bX) (by simp)
  have zR := blk_lt bR2
  have zX := blk_lt bX2
  have G2 := Lib.hid (Tn.gb g2 (S := [w.heap.size, w.heap.size + 1 + 1]) (by simp))
  clear bX bO bR g2 x0 x1 x2 x3 x4 x5 x6 x7 x8 x9 x10 x11 x12
  have q0 := blk_cell bR2 0
  have q1 := blk_cell bR2 1
  have q2 := blk_cell bR2 2
  have q3 := blk_cell bR2 3
  have q4 := blk_cell bR2 4
  have q5 := blk_cell bR2 5
  have q6 := blk_cell bR2 6
  have q7 := blk_cell bR2 7
  have q8 := blk_cell bR2 8
  have q9 := blk_cell bR2 9
  have q10 := blk_cell bR2 10
  have q11 := blk_cell bR2 11
  have q12 := blk_cell bR2 12
  simp only [List.getElem?_toArray, List.getElem?_cons_succ, List.getElem?_cons_zero] at q0 q1 q2 q3 q4 q5 q6 q7 q8 q9 q10 q11 q12
  have qz0 := blk_free bR2 0
  have qz1 := blk_free bR2 1
  have qz2 := blk_free bR2 2
  have qz3 := blk_free bR2 3
  have qz4 := blk_free bR2 4
  have qz5 := blk_free bR2 5
  have qz6 := blk_free bR2 6
  have qz7 := blk_free bR2 7
  have qz8 := blk_free bR2 8
  have qz9 := blk_free bR2 9
  have qz10 := blk_free bR2 10
  have qz11 := blk_free bR2 11
  have qz12 := blk_free bR2 12
  have u0 := blk_cell bX2 0
  have u1 := blk_cell bX2 1
  have u2 := blk_cell bX2 2
  have u3 := blk_cell bX2 3
  have u4 := blk_cell bX2 4
  have u5 := blk_cell bX2 5
  have u6 := blk_cell bX2 6
  have u7 := blk_cell bX2 7
  have u8 := blk_cell bX2 8
  have u9 := blk_cell bX2 9
  have u10 := blk_cell bX2 10
  have u11 := blk_cell bX2 11
  have u12 := blk_cell bX2 12
  simp only [List.getElem?_toArray, List.getElem?_cons_succ, List.getElem?_cons_zero] at u0 u1 u2 u3 u4 u5 u6 u7 u8 u9 u10 u11 u12
  have BR := Lib.hid bR2
  clear bR2 bX2
  go_wp2_with fail
  obtain ⟨Q, hQ⟩ : ∃ Q, w2.heap.size = Q := ⟨_, rfl⟩
  refine abs_w' (R := fun w3 => w3.heap[Q]? = some (.cells #[.string s, .int .i64 f, .int .i64 t, .int .i64 p, .int .i64 y.w, .int .i64 y.h, .int .i64 y.b, .int .i64 y.s, .int .i64 y.by_, .int .i64 y.pk, .int .i64 y.st, .int .i64 y.r, .int .i64 y.a] 37 (0, 0)) ∧ w3.heap[w.heap.size + 1 + 1]? = some (.cells #[.string ⟨#[]⟩, .int .i64 0, .int .i64 0, .int .i64 0, .int .i64 0, .int .i64 0, .int .i64 0, .int .i64 0, .int .i64 0, .int .i64 0, .int .i64 0, .int .i64 0, .int .i64 0] 37 (0, 0)) ∧ Tn w1 w3 [w.heap.size, w.heap.size + 1 + 1]) ?_ (fun w3 R3 => ?_)
  · refine ⟨by rw [← hQ]; exact blk_at, blk_al BR.out _, ?_⟩
    repeat' (first | with_reducible exact G2.out | with_reducible refine Tn.al ?_ | with_reducible refine Tn.st ?_ (by simp) | with_reducible refine Tn.dr ?_ | with_reducible refine Tn.dn ?_)
  have bQ3 := R3.1
  have bR3 := R3.2.1
  have G3 := Lib.hid R3.2.2
  have zQ3 := blk_lt bQ3
  have zR3 := blk_lt bR3
  have nQ : ¬ Q = w.heap.size + 1 + 1 := by omega
  have nQ' : ¬ w.heap.size + 1 + 1 = Q := by omega
  simp only [hQ]
  clear R3 hQ q0 q1 q2 q3 q4 q5 q6 q7 q8 q9 q10 q11 q12 qz0 qz1 qz2 qz3 qz4 qz5 qz6 qz7 qz8 qz9 qz10 qz11 qz12 u0 u1 u2 u3 u4 u5 u6 u7 u8 u9 u10 u11 u12
  have a0 := blk_cell bQ3 0
  have a1 := blk_cell bQ3 1
  have a2 := blk_cell bQ3 2
  have a3 := blk_cell bQ3 3
  have a4 := blk_cell bQ3 4
  have a5 := blk_cell bQ3 5
  have a6 := blk_cell bQ3 6
  have a7 := blk_cell bQ3 7
  have a8 := blk_cell bQ3 8
  have a9 := blk_cell bQ3 9
  have a10 := blk_cell bQ3 10
  have a11 := blk_cell bQ3 11
  have a12 := blk_cell bQ3 12
  simp only [List.getElem?_toArray, List.getElem?_cons_succ, List.getElem?_cons_zero] at a0 a1 a2 a3 a4 a5 a6 a7 a8 a9 a10 a11 a12
  have q0 := blk_cell bR3 0
  have q1 := blk_cell bR3 1
  have q2 := blk_cell bR3 2
  have q3 := blk_cell bR3 3
  have q4 := blk_cell bR3 4
  have q5 := blk_cell bR3 5
  have q6 := blk_cell bR3 6
  have q7 := blk_cell bR3 7
  have q8 := blk_cell bR3 8
  have q9 := blk_cell bR3 9
  have q10 := blk_cell bR3 10
  have q11 := blk_cell bR3 11
  have q12 := blk_cell bR3 12
  simp only [List.getElem?_toArray, List.getElem?_cons_succ, List.getElem?_cons_zero] at q0 q1 q2 q3 q4 q5 q6 q7 q8 q9 q10 q11 q12
  have qz0 := blk_free bR3 0
  have qz1 := blk_free bR3 1
  have qz2 := blk_free bR3 2
  have qz3 := blk_free bR3 3
  have qz4 := blk_free bR3 4
  have qz5 := blk_free bR3 5
  have qz6 := blk_free bR3 6
  have qz7 := blk_free bR3 7
  have qz8 := blk_free bR3 8
  have qz9 := blk_free bR3 9
  have qz10 := blk_free bR3 10
  have qz11 := blk_free bR3 11
  have qz12 := blk_free bR3 12
  clear bQ3 bR3
  refine wp_region_held_drew (S := (fun w' => w'.cell? ⟨Q, 0, none⟩ = some (.string s) ∧ w'.cell? ⟨Q, 1, none⟩ = some (.int .i64 f) ∧ w'.cell? ⟨Q, 2, none⟩ = some (.int .i64 t) ∧ w'.cell? ⟨Q, 3, none⟩ = some (.int .i64 p) ∧ w'.cell? ⟨Q, 4, none⟩ = some (.int .i64 y.w) ∧ w'.cell? ⟨Q, 5, none⟩ = some (.int .i64 y.h) ∧ w'.cell? ⟨Q, 6, none⟩ = some (.int .i64 y.b) ∧ w'.cell? ⟨Q, 7, none⟩ = some (.int .i64 y.s) ∧ w'.cell? ⟨Q, 8, none⟩ = some (.int .i64 y.by_) ∧ w'.cell? ⟨Q, 9, none⟩ = some (.int .i64 y.pk) ∧ w'.cell? ⟨Q, 10, none⟩ = some (.int .i64 y.st) ∧ w'.cell? ⟨Q, 11, none⟩ = some (.int .i64 y.r) ∧ w'.cell? ⟨Q, 12, none⟩ = some (.int .i64 y.a))) (by kernel_rfl) ?_ (fun hHeld => ?_)
  · try dsimp only
    go_keep
  refine wpAnyH_take (i := 0) (oi := { dst := some 95, op := Go.Op.move (Go.Operand.tmp 0), type := 28, pos := "law.go:80", after := #[], guard := none }) (v := ?v0) rfl (by kernel_rfl) (by kernel_rfl) (by kernel_rfl) (fun _ _ _ h => h) (Or.inl ⟨by rfl, ?hy0⟩) (by assumption) ?rest0
  case hy0 =>
    intro w' hSw
    try dsimp only at hSw
    go_simp
    try with_reducible rfl
  try simp only [Act.put, List.setIfInBounds_toArray, List.set_cons_zero, List.set_cons_succ]
  refine wpAnyH_take (i := 2) (oi := { dst := some 97, op := Go.Op.move (Go.Operand.tmp 17), type := 4, pos := "law.go:80", after := #[], guard := none }) (v := ?v2) rfl (by kernel_rfl) (by kernel_rfl) (by kernel_rfl) (fun _ _ _ h => h) (Or.inl ⟨by rfl, ?hy2⟩) (by assumption) ?rest2
  case hy2 =>
    intro w' hSw
    try dsimp only at hSw
    go_simp
    try with_reducible rfl
  try simp only [Act.put, List.setIfInBounds_toArray, List.set_cons_zero, List.set_cons_succ]
  refine wpAnyH_take (i := 3) (oi := { dst := some 98, op := Go.Op.move (Go.Operand.tmp 20), type := 4, pos := "law.go:80", after := #[], guard := none }) (v := ?v3) rfl (by kernel_rfl) (by kernel_rfl) (by kernel_rfl) (fun _ _ _ h => h) (Or.inl ⟨by rfl, ?hy3⟩) (by assumption) ?rest3
  case hy3 =>
    intro w' hSw
    try dsimp only at hSw
    go_simp
    try with_reducible rfl
  try simp only [Act.put, List.setIfInBounds_toArray, List.set_cons_zero, List.set_cons_succ]
  refine wpAnyH_take (i := 1) (oi := { dst := some 96, op := Go.Op.load 37 (Go.Operand.tmp 18), type := 37, pos := "law.go:80", after := #[{ on := 22, ground := Go.Ground.gcOnly Go.Departure.lateStores }], guard := none }) (v := ?v1) rfl (by kernel_rfl) (by kernel_rfl) (by kernel_rfl) (fun _ _ _ h => h) (Or.inl ⟨by rfl, ?hy1⟩) (by assumption) ?rest1
  case hy1 =>
    intro w' hSw
    try dsimp only at hSw
    go_simp
    try with_reducible rfl
  try simp only [Act.put, List.setIfInBounds_toArray, List.set_cons_zero, List.set_cons_succ]
  refine wpAnyH_take (i := 4) (oi := { dst := some 99, op := Go.Op.binOp Go.BinOp.eql 4 (Go.Operand.tmp 97) (Go.Operand.tmp 98) 4, type := 4, pos := "law.go:80", after := #[{ on := 2, ground := Go.Ground.data }, { on := 3, ground := Go.Ground.data }], guard := none }) (v := ?v4) rfl (by kernel_rfl) (by kernel_rfl) (by kernel_rfl) (fun _ _ _ h => h) (Or.inl ⟨by rfl, ?hy4⟩) (by assumption) ?rest4
  case hy4 =>
    intro w' hSw
    try dsimp only at hSw
    go_simp
    try with_reducible rfl
  try simp only [Act.put, List.setIfInBounds_toArray, List.set_cons_zero, List.set_cons_succ]
  refine wpAnyH_take (i := 5) (oi := { dst := some 100, op := Go.Op.move (Go.Operand.tmp 99), type := 4, pos := "law.go:80", after := #[{ on := 4, ground := Go.Ground.data }], guard := none }) (v := ?v5) rfl (by kernel_rfl) (by kernel_rfl) (by kernel_rfl) (fun _ _ _ h => h) (Or.inl ⟨by rfl, ?hy5⟩) (by assumption) ?rest5
  case hy5 =>
    intro w' hSw
    try dsimp only at hSw
    go_simp
    try with_reducible rfl
  try simp only [Act.put, List.setIfInBounds_toArray, List.set_cons_zero, List.set_cons_succ]
  refine wpAnyH_take (i := 6) (oi := { dst := some 101, op := Go.Op.move (Go.Operand.tmp 20), type := 4, pos := "law.go:80", after := #[{ on := 5, ground := Go.Ground.guard }], guard := some (5, true) }) (v := ?v6) rfl (by kernel_rfl) (by kernel_rfl) (by kernel_rfl) (fun _ _ _ h => h) (Or.inl ⟨by rfl, ?hy6⟩) (by assumption) ?rest6
  case hy6 =>
    intro w' hSw
    try dsimp only at hSw
    go_simp
    try with_reducible rfl
  try simp only [Act.put, List.setIfInBounds_toArray, List.set_cons_zero, List.set_cons_succ]
  refine wpAnyH_take (i := 7) (oi := { dst := some 102, op := Go.Op.unOp Go.UnOp.not 4 (Go.Operand.tmp 101), type := 4, pos := "law.go:80", after := #[{ on := 6, ground := Go.Ground.data }, { on := 5, ground := Go.Ground.guard }], guard := some (5, true) }) (v := ?v7) rfl (by kernel_rfl) (by kernel_rfl) (by kernel_rfl) (fun _ _ _ h => h) (Or.inl ⟨by rfl, ?hy7⟩) (by assumption) ?rest7
  case hy7 =>
    intro w' hSw
    try dsimp only at hSw
    go_simp
    try with_reducible rfl
  try simp only [Act.put, List.setIfInBounds_toArray, List.set_cons_zero, List.set_cons_succ]
  refine wpAnyH_take (i := 8) (oi := { dst := some 103, op := Go.Op.move (Go.Operand.tmp 102), type := 4, pos := "law.go:80", after := #[{ on := 7, ground := Go.Ground.data }, { on := 5, ground := Go.Ground.chain }, { on := 5, ground := Go.Ground.guard }], guard := some (5, true) }) (v := ?v8) rfl (by kernel_rfl) (by kernel_rfl) (by kernel_rfl) (fun _ _ _ h => h) (Or.inl ⟨by rfl, ?hy8⟩) (by assumption) ?rest8
  case hy8 =>
    intro w' hSw
    try dsimp only at hSw
    go_simp
    try with_reducible rfl
  try simp only [Act.put, List.setIfInBounds_toArray, List.set_cons_zero, List.set_cons_succ]
  refine wpAnyH_take (i := 9) (oi := { dst := some 104, op := Go.Op.move (Go.Operand.tmp 16), type := 3, pos := "law.go:80", after := #[{ on := 8, ground := Go.Ground.guard }], guard := some (8, true) }) (v := undef) rfl (by kernel_rfl) (by kernel_rfl) (by kernel_rfl) (fun _ _ _ h => h) (Or.inr ⟨by rfl, rfl⟩) (by assumption) ?_
  try simp only [Act.put, List.setIfInBounds_toArray, List.set_cons_zero, List.set_cons_succ]
  refine wpAnyH_take (i := 10) (oi := { dst := some 105, op := Go.Op.binOp Go.BinOp.eql 3 (Go.Operand.tmp 104) (Go.Operand.const (Go.Value.int Go.IntKind.i64 0)) 3, type := 4, pos := "law.go:80", after := #[{ on := 9, ground := Go.Ground.data }, { on := 8, ground := Go.Ground.guard }], guard := some (8, true) }) (v := undef) rfl (by kernel_rfl) (by kernel_rfl) (by kernel_rfl) (fun _ _ _ h => h) (Or.inr ⟨by rfl, rfl⟩) (by assumption) ?_
  try simp only [Act.put, List.setIfInBounds_toArray, List.set_cons_zero, List.set_cons_succ]
  refine wpAnyH_take (i := 11) (oi := { dst := some 106, op := Go.Op.pick (Go.Operand.tmp 103) (Go.Operand.tmp 105) (Go.Operand.const (Go.Value.bool false)), type := 4, pos := "law.go:80", after := #[{ on := 8, ground := Go.Ground.data }, { on := 10, ground := Go.Ground.data }, { on := 5, ground := Go.Ground.guard }], guard := some (5, true) }) (v := ?v11) rfl (by kernel_rfl) (by kernel_rfl) (by kernel_rfl) (fun _ _ _ h => h) (Or.inl ⟨by rfl, ?hy11⟩) (by assumption) ?rest11
  case hy11 =>
    intro w' hSw
    try dsimp only at hSw
    go_simp
    try with_reducible rfl
  try simp only [Act.put, List.setIfInBounds_toArray, List.set_cons_zero, List.set_cons_succ]
  refine wpAnyH_take (i := 12) (oi := { dst := some 107, op := Go.Op.move (Go.Operand.tmp 106), type := 4, pos := "law.go:80", after := #[{ on := 11, ground := Go.Ground.data }, { on := 8, ground := Go.Ground.chain }, { on := 5, ground := Go.Ground.guard }], guard := some (5, true) }) (v := ?v12) rfl (by kernel_rfl) (by kernel_rfl) (by kernel_rfl) (fun _ _ _ h => h) (Or.inl ⟨by rfl, ?hy12⟩) (by assumption) ?rest12
  case hy12 =>
    intro w' hSw
    try dsimp only at hSw
    go_simp
    try with_reducible rfl
  try simp only [Act.put, List.setIfInBounds_toArray, List.set_cons_zero, List.set_cons_succ]
  refine wpAnyH_take (i := 13) (oi := { dst := some 108, op := Go.Op.move (Go.Operand.tmp 20), type := 4, pos := "law.go:80", after := #[{ on := 12, ground := Go.Ground.guard }], guard := some (12, false) }) (v := ?v13) rfl (by kernel_rfl) (by kernel_rfl) (by kernel_rfl) (fun _ _ _ h => h) (Or.inl ⟨by rfl, ?hy13⟩) (by assumption) ?rest13
  case hy13 =>
    intro w' hSw
    try dsimp only at hSw
    go_simp
    try with_reducible rfl
  try simp only [Act.put, List.setIfInBounds_toArray, List.set_cons_zero, List.set_cons_succ]
  refine wpAnyH_take (i := 14) (oi := { dst := some 109, op := Go.Op.move (Go.Operand.tmp 108), type := 4, pos := "law.go:80", after := #[{ on := 13, ground := Go.Ground.data }, { on := 12, ground := Go.Ground.chain }, { on := 12, ground := Go.Ground.guard }], guard := some (12, false) }) (v := ?v14) rfl (by kernel_rfl) (by kernel_rfl) (by kernel_rfl) (fun _ _ _ h => h) (Or.inl ⟨by rfl, ?hy14⟩) (by assumption) ?rest14
  case hy14 =>
    intro w' hSw
    try dsimp only at hSw
    go_simp
    try with_reducible rfl
  try simp only [Act.put, List.setIfInBounds_toArray, List.set_cons_zero, List.set_cons_succ]
  refine wpAnyH_take (i := 15) (oi := { dst := some 110, op := Go.Op.move (Go.Operand.tmp 16), type := 3, pos := "law.go:80", after := #[{ on := 14, ground := Go.Ground.guard }, { on := 23, ground := Go.Ground.gcOnly Go.Departure.lateStores }], guard := some (14, true) }) (v := ?v15) rfl (by kernel_rfl) (by kernel_rfl) (by kernel_rfl) (fun _ _ _ h => h) (Or.inl ⟨by rfl, ?hy15⟩) (by assumption) ?rest15
  case hy15 =>
    intro w' hSw
    try dsimp only at hSw
    go_simp
    try with_reducible rfl
  try simp only [Act.put, List.setIfInBounds_toArray, List.set_cons_zero, List.set_cons_succ]
  refine wpAnyH_take (i := 16) (oi := { dst := some 111, op := Go.Op.move (Go.Operand.tmp 19), type := 9, pos := "law.go:80", after := #[{ on := 14, ground := Go.Ground.guard }], guard := some (14, true) }) (v := ?v16) rfl (by kernel_rfl) (by kernel_rfl) (by kernel_rfl) (fun _ _ _ h => h) (Or.inl ⟨by rfl, ?hy16⟩) (by assumption) ?rest16
  case hy16 =>
    intro w' hSw
    try dsimp only at hSw
    go_simp
    try with_reducible rfl
  try simp only [Act.put, List.setIfInBounds_toArray, List.set_cons_zero, List.set_cons_succ]
  refine wpAnyH_ready (rs := [17]) (by kernel_rfl) (by simp) ?_
  refine AllReadyH.cons (o := { dst := some 112, op := Go.Op.call { callee := Go.Callee.value (Go.Operand.func 28), args := #[Go.Operand.tmp 111], argTypes := #[9] }, type := 3, pos := "law.go:80", after := #[{ on := 16, ground := Go.Ground.data }, { on := 14, ground := Go.Ground.chain }, { on := 14, ground := Go.Ground.guard }], guard := some (14, true) }) rfl (fun K hK => ?_) AllReadyH.nil
  go_simp
  refine (KL.out _).mono ?_
  rintro e w' ⟨rfl, rfl⟩
  go_wp2_with fail
  refine hK.out _ _ ?_ (fun hHeld2 => ?_)
  · try dsimp only
    go_keep
  clear hHeld
  have hHeld := hHeld2
  clear hK K hHeld2
  try simp only [Act.put, List.setIfInBounds_toArray, List.set_cons_zero, List.set_cons_succ]
  refine wpAnyH_take (i := 18) (oi := { dst := some 113, op := Go.Op.binOp Go.BinOp.eql 3 (Go.Operand.tmp 110) (Go.Operand.tmp 112) 3, type := 4, pos := "law.go:80", after := #[{ on := 15, ground := Go.Ground.data }, { on := 17, ground := Go.Ground.data }, { on := 14, ground := Go.Ground.guard }, { on := 23, ground := Go.Ground.gcOnly Go.Departure.lateStores }], guard := some (14, true) }) (v := ?v18) rfl (by kernel_rfl) (by kernel_rfl) (by kernel_rfl) (fun _ _ _ h => h) (Or.inl ⟨by rfl, ?hy18⟩) (by assumption) ?rest18
  case hy18 =>
    intro w' hSw
    try dsimp only at hSw
    go_simp
    try with_reducible rfl
  try simp only [Act.put, List.setIfInBounds_toArray, List.set_cons_zero, List.set_cons_succ]
  refine wpAnyH_take (i := 19) (oi := { dst := some 114, op := Go.Op.pick (Go.Operand.tmp 109) (Go.Operand.tmp 113) (Go.Operand.const (Go.Value.bool false)), type := 4, pos := "law.go:80", after := #[{ on := 14, ground := Go.Ground.data }, { on := 18, ground := Go.Ground.data }, { on := 12, ground := Go.Ground.guard }, { on := 23, ground := Go.Ground.gcOnly Go.Departure.lateStores }], guard := some (12, false) }) (v := ?v19) rfl (by kernel_rfl) (by kernel_rfl) (by kernel_rfl) (fun _ _ _ h => h) (Or.inl ⟨by rfl, ?hy19⟩) (by assumption) ?rest19
  case hy19 =>
    intro w' hSw
    try dsimp only at hSw
    go_simp
    try with_reducible rfl
  try simp only [Act.put, List.setIfInBounds_toArray, List.set_cons_zero, List.set_cons_succ]
  refine wpAnyH_take (i := 20) (oi := { dst := some 115, op := Go.Op.pick (Go.Operand.tmp 107) (Go.Operand.const (Go.Value.bool true)) (Go.Operand.tmp 114), type := 4, pos := "law.go:80", after := #[{ on := 12, ground := Go.Ground.data }, { on := 19, ground := Go.Ground.data }, { on := 5, ground := Go.Ground.guard }, { on := 23, ground := Go.Ground.gcOnly Go.Departure.lateStores }], guard := some (5, true) }) (v := ?v20) rfl (by kernel_rfl) (by kernel_rfl) (by kernel_rfl) (fun _ _ _ h => h) (Or.inl ⟨by rfl, ?hy20⟩) (by assumption) ?rest20
  case hy20 =>
    intro w' hSw
    try dsimp only at hSw
    go_simp
    try with_reducible rfl
  try simp only [Act.put, List.setIfInBounds_toArray, List.set_cons_zero, List.set_cons_succ]
  refine wpAnyH_take (i := 21) (oi := { dst := some 116, op := Go.Op.pick (Go.Operand.tmp 100) (Go.Operand.tmp 115) (Go.Operand.const (Go.Value.bool false)), type := 4, pos := "law.go:80", after := #[{ on := 5, ground := Go.Ground.data }, { on := 20, ground := Go.Ground.data }, { on := 23, ground := Go.Ground.gcOnly Go.Departure.lateStores }], guard := none }) (v := ?v21) rfl (by kernel_rfl) (by kernel_rfl) (by kernel_rfl) (fun _ _ _ h => h) (Or.inl ⟨by rfl, ?hy21⟩) (by assumption) ?rest21
  case hy21 =>
    intro w' hSw
    try dsimp only at hSw
    go_simp
    try with_reducible rfl
  try simp only [Act.put, List.setIfInBounds_toArray, List.set_cons_zero, List.set_cons_succ]
  refine wpAnyH_ready (rs := [22]) (by kernel_rfl) (by simp) ?_
  refine AllReadyH.cons (o := { dst := some 6, op := Go.Op.assign (Go.Operand.tmp 95), type := 28, pos := "law.go:80", after := #[{ on := 0, ground := Go.Ground.data }, { on := 17, ground := Go.Ground.chain }, { on := 0, ground := Go.Ground.phase }, { on := 1, ground := Go.Ground.textOnly Go.Departure.lateStores }, { on := 2, ground := Go.Ground.textOnly Go.Departure.lateStores }, { on := 3, ground := Go.Ground.textOnly Go.Departure.lateStores }, { on := 4, ground := Go.Ground.textOnly Go.Departure.lateStores }, { on := 5, ground := Go.Ground.textOnly Go.Departure.lateStores }, { on := 6, ground := Go.Ground.textOnly Go.Departure.lateStores }, { on := 7, ground := Go.Ground.textOnly Go.Departure.lateStores }, { on := 8, ground := Go.Ground.textOnly Go.Departure.lateStores }, { on := 9, ground := Go.Ground.textOnly Go.Departure.lateStores }, { on := 10, ground := Go.Ground.textOnly Go.Departure.lateStores }, { on := 11, ground := Go.Ground.textOnly Go.Departure.lateStores }, { on := 12, ground := Go.Ground.textOnly Go.Departure.lateStores }, { on := 13, ground := Go.Ground.textOnly Go.Departure.lateStores }, { on := 14, ground := Go.Ground.textOnly Go.Departure.lateStores }, { on := 15, ground := Go.Ground.textOnly Go.Departure.lateStores }, { on := 16, ground := Go.Ground.textOnly Go.Departure.lateStores }, { on := 17, ground := Go.Ground.textOnly Go.Departure.lateStoresUnsure }, { on := 18, ground := Go.Ground.textOnly Go.Departure.lateStores }, { on := 19, ground := Go.Ground.textOnly Go.Departure.lateStores }, { on := 20, ground := Go.Ground.textOnly Go.Departure.lateStores }, { on := 21, ground := Go.Ground.textOnly Go.Departure.lateStores }], guard := none }) rfl (fun K hK => ?_) AllReadyH.nil
  go_simp
  refine hK.out _ _ ?_ (fun hHeld2 => ?_)
  · try dsimp only
    go_keep
  clear hHeld
  have hHeld := hHeld2
  clear hK K hHeld2
  try simp only [Act.put, List.setIfInBounds_toArray, List.set_cons_zero, List.set_cons_succ]
  refine wpAnyH_ready (rs := [23]) (by kernel_rfl) (by simp) ?_
  refine AllReadyH.cons (o := { dst := none, op := Go.Op.store 37 (Go.Operand.tmp 7) (Go.Operand.tmp 96), type := 0, pos := "law.go:80", after := #[{ on := 1, ground := Go.Ground.data }, { on := 22, ground := Go.Ground.chain }, { on := 0, ground := Go.Ground.phase }, { on := 1, ground := Go.Ground.phase }, { on := 2, ground := Go.Ground.textOnly Go.Departure.lateStores }, { on := 3, ground := Go.Ground.textOnly Go.Departure.lateStores }, { on := 4, ground := Go.Ground.textOnly Go.Departure.lateStores }, { on := 5, ground := Go.Ground.textOnly Go.Departure.lateStores }, { on := 6, ground := Go.Ground.textOnly Go.Departure.lateStores }, { on := 7, ground := Go.Ground.textOnly Go.Departure.lateStores }, { on := 8, ground := Go.Ground.textOnly Go.Departure.lateStores }, { on := 9, ground := Go.Ground.textOnly Go.Departure.lateStores }, { on := 10, ground := Go.Ground.textOnly Go.Departure.lateStores }, { on := 11, ground := Go.Ground.textOnly Go.Departure.lateStores }, { on := 12, ground := Go.Ground.textOnly Go.Departure.lateStores }, { on := 13, ground := Go.Ground.textOnly Go.Departure.lateStores }, { on := 14, ground := Go.Ground.textOnly Go.Departure.lateStores }, { on := 15, ground := Go.Ground.textOnly Go.Departure.lateStores }, { on := 16, ground := Go.Ground.textOnly Go.Departure.lateStores }, { on := 17, ground := Go.Ground.textOnly Go.Departure.lateStoresUnsure }, { on := 18, ground := Go.Ground.textOnly Go.Departure.lateStores }, { on := 19, ground := Go.Ground.textOnly Go.Departure.lateStores }, { on := 20, ground := Go.Ground.textOnly Go.Departure.lateStores }, { on := 21, ground := Go.Ground.textOnly Go.Departure.lateStores }, { on := 22, ground := Go.Ground.phase }], guard := none }) rfl (fun K hK => ?_) AllReadyH.nil
  go_simp
  refine hK.out _ _ ?_ (fun hHeld2 => ?_)
  · try dsimp only
    go_keep
  clear hHeld
  have hHeld := hHeld2
  clear hK K hHeld2
  try simp only [Act.put, List.setIfInBounds_toArray, List.set_cons_zero, List.set_cons_succ]
  refine wpAnyH_ready (rs := [24]) (by kernel_rfl) (by simp) ?_
  refine AllReadyH.cons (o := { dst := some 8, op := Go.Op.assign (Go.Operand.tmp 116), type := 4, pos := "law.go:80", after := #[{ on := 21, ground := Go.Ground.data }, { on := 23, ground := Go.Ground.chain }, { on := 0, ground := Go.Ground.phase }, { on := 1, ground := Go.Ground.phase }, { on := 2, ground := Go.Ground.phase }, { on := 3, ground := Go.Ground.phase }, { on := 4, ground := Go.Ground.phase }, { on := 5, ground := Go.Ground.phase }, { on := 6, ground := Go.Ground.phase }, { on := 7, ground := Go.Ground.phase }, { on := 8, ground := Go.Ground.phase }, { on := 9, ground := Go.Ground.phase }, { on := 10, ground := Go.Ground.phase }, { on := 11, ground := Go.Ground.phase }, { on := 12, ground := Go.Ground.phase }, { on := 13, ground := Go.Ground.phase }, { on := 14, ground := Go.Ground.phase }, { on := 15, ground := Go.Ground.phase }, { on := 16, ground := Go.Ground.phase }, { on := 17, ground := Go.Ground.phase }, { on := 18, ground := Go.Ground.phase }, { on := 19, ground := Go.Ground.phase }, { on := 20, ground := Go.Ground.phase }, { on := 21, ground := Go.Ground.phase }, { on := 22, ground := Go.Ground.phase }, { on := 23, ground := Go.Ground.phase }], guard := none }) rfl (fun K hK => ?_) AllReadyH.nil
  go_simp
  refine hK.out _ _ ?_ (fun hHeld2 => ?_)
  · try dsimp only
    go_keep
  clear hHeld
  have hHeld := hHeld2
  clear hK K hHeld2
  try simp only [Act.put, List.setIfInBounds_toArray, List.set_cons_zero, List.set_cons_succ]
  refine wpAnyH_done (by kernel_rfl) ?_ _
  all_goals
    go_wp2
    refine bodyPost_ret (v := .tuple #[.pointer (some ⟨b, 0, none⟩), .agg #[.string s, .int .i64 f, .int .i64 t, .int .i64 p, .int .i64 y.w, .int .i64 y.h, .int .i64 y.b, .int .i64 y.s, .int .i64 y.by_, .int .i64 y.pk, .int .i64 y.st, .int .i64 y.r, .int .i64 y.a], .bool true]) (by simp only [results, Try.results13]; go_simp) rfl ?_
    refine ⟨b, p, f, t, y, rfl, S1'.out.fin G1.out [w.heap.size, w.heap.size + 1 + 1] (by simp; omega) hb hl ?_, .inl rfl⟩
    repeat' (first | with_reducible exact G3.out | with_reducible refine Tn.al ?_ | with_reducible refine Tn.st ?_ (by simp) | with_reducible refine Tn.dr ?_ | with_reducible refine Tn.dn ?_)

end Go.Proofs.Ytdcmbjhjfdjdhaa.Sr
