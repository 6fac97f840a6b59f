/- Package buf: freed, handed over, made. -/
import Derived.Test.YtjdhlehpoclnjaaGreatBuf4
namespace Go.Proofs.YtjdhlehpoclnjaaGreat.Bu
open Go.ChangeShapes Go.WideShapes Go.ChangeAt Go.RowKit
open Go.Proofs.YtjdhlehpoclnjaaGreat.Le
set_option linter.unusedVariables false

theorem go2_calls (b l g n pb p1 p2 : Nat) (w : World) (n1 : ¬ b = pb) (n2 : ¬ b = p1) (n3 : ¬ b = p2) (n4 : ¬ p1 = p2) (n5 : ¬ pb = p1) (n6 : ¬ pb = p2)
    (hb : w.heap[b]? = some (.cells (BC l (.slice (some ⟨g, 0, none⟩) n n) true 0 0) 161 (0, 0)))
    (hp : w.cell? ⟨pb, 0, none⟩ = some (.pointer (some ⟨b, 0, none⟩)))
    (h1 : w.heap[p1]? = some (.cells #[.slice none 0 0] 25 (0, 0))) (h2 : w.heap[p2]? = some (.cells #[.bool false] 4 (0, 0))) :
    Calls Tryz.prog 134 #[.pointer (some ⟨b, 3, none⟩), .func (.func 118) #[] #[.pointer (some ⟨pb, 0, none⟩), .pointer (some ⟨p1, 0, none⟩), .pointer (some ⟨p2, 0, none⟩)]] w
      fun e w' => e = .returned (.tuple #[]) ∧ (w'.heap[b]? = some (.cells (BC l (.slice none 0 0) false 1 0) 161 (0, 0)) ∧
        w'.heap[p1]? = some (.cells #[.slice (some ⟨g, 0, none⟩) n n] 25 (0, 0)) ∧ w'.heap[p2]? = some (.cells #[.bool true] 4 (0, 0))) ∧ Tn w w' [b, p1, p2] := by
  have m2 : ¬ p1 = b := fun e => n2 e.symm
  have m3 : ¬ p2 = b := fun e => n3 e.symm
  have L1 : (w.setCell ⟨b, 4, none⟩ (.int .i32 1)).heap[b]? = some (.cells (BC l (.slice (some ⟨g, 0, none⟩) n n) true 0 1) 161 (0, 0)) := blk_set hb 4 _
  have g1 := gb_set w b 4 (.int .i32 1)
  have cp := g1.cell hp (by simpa using fun e => n1 e.symm)
  have c0 : w.cell? ⟨b, 4, none⟩ = some (.int .i32 0) := blk_cell hb 4
  have c1 : (w.setCell ⟨b, 4, none⟩ (.int .i32 1)).cell? ⟨b, 3, none⟩ = some (.int .u32 0) := blk_cell L1 3
  have K1 := Lib.hid (lock_free ⟨b, 4, none⟩ w c0 (blk_free hb 4))
  have K2 := Lib.hid (loadB ⟨b, 3, none⟩ 0 _ c1 rfl)
  have K3 := Lib.hid (go1_calls b l g n pb p1 p2 0 1 _ n1 n2 n3 n4 n5 n6 L1 cp (blk_other h1 m2) (blk_other h2 m3))
  have hnot : ∀ (x : Bool) (w : World), (Op.unary .not (.bool x)).run Tryz.prog w = .ok (.bool (!x)) w := fun _ _ => rfl
  clear cp c0 c1 hp h1 h2 hb L1 g1 n1 n4 n5 n6
  go_enter_defers Tryz.func134, Tryz.ntmps134
  go_wp2_with (first | (go_at_call 143; refine K1.out.mono ?_; rintro e w' ⟨rfl, rfl⟩) | (go_at_call 52; refine K2.out.mono ?_; rintro e w' ⟨rfl, rfl⟩))
  refine K3.out.mono ?_
  rintro e w2 ⟨rfl, ⟨B2, P2, Q2⟩, T2⟩
  have HB2 := Lib.hid B2
  have HP2 := Lib.hid P2
  have HQ2 := Lib.hid Q2
  have HT2 := Lib.hid T2
  clear B2 P2 Q2 T2
  go_wp2
  refine leaves_cons (f := 124) (args := #[.pointer (some ⟨b, 3, none⟩), .bool true]) (by simp) (by simp [go_sem]) ?_
  have HB2d : w2.drew.heap[b]? = _ := HB2.out
  have HP2d : w2.drew.heap[p1]? = _ := HP2.out
  have HQ2d : w2.drew.heap[p2]? = _ := HQ2.out
  refine (storeB_d ⟨b, 3, none⟩ (.int .u32 0) .returning _ rfl (blk_cell HB2.out 3) (blk_free HB2.out 3)).mono ?_
  rintro e u' w'' ⟨rfl, rfl, rfl⟩
  have L3 : (w2.drew.setCell ⟨b, 3, none⟩ (.int .u32 1)).heap[b]? = some (.cells (BC l (.slice none 0 0) false 1 1) 161 (0, 0)) := blk_set HB2d 3 _
  refine leaves_cons (f := 144) (args := #[.pointer (some ⟨b, 4, none⟩)]) (by simp [settle]) (by simp [go_sem]) ?_
  refine (unlock_d ⟨b, 4, none⟩ _ _ (blk_cell L3 4) (blk_free L3 4)).mono ?_
  rintro e u' w'' ⟨rfl, rfl, rfl⟩
  have L4 : ((w2.drew.setCell ⟨b, 3, none⟩ (.int .u32 1)).setCell ⟨b, 4, none⟩ (.int .i32 0)).heap[b]? = some (.cells (BC l (.slice none 0 0) false 1 0) 161 (0, 0)) := blk_set L3 4 _
  have P4 := blk_other (o := 4) (v := .int .i32 0) (blk_other (o := 3) (v := .int .u32 1) HP2d m2) m2
  have Q4 := blk_other (o := 4) (v := .int .i32 0) (blk_other (o := 3) (v := .int .u32 1) HQ2d m3) m3
  have T4 : Tn w ((w2.drew.setCell ⟨b, 3, none⟩ (.int .u32 1)).setCell ⟨b, 4, none⟩ (.int .i32 0)) [b, p1, p2] :=
    ((((Tn.set _ _ _ _ (by simp)).trans HT2.out).trans (Tn.drew _ _)).trans (Tn.set _ _ _ _ (by simp))).trans (Tn.set _ _ _ _ (by simp))
  simp [Leaves, settle, results, Tryz.results134]
  exact ⟨⟨L4, P4, Q4⟩, T4⟩

theorem go3_calls (b l g n pb p1 p2 : Nat) (w : World) (n1 : ¬ b = pb) (n2 : ¬ b = p1) (n3 : ¬ b = p2) (n4 : ¬ p1 = p2) (n5 : ¬ pb = p1) (n6 : ¬ pb = p2)
    (hb : w.heap[b]? = some (.cells (BC l (.slice (some ⟨g, 0, none⟩) n n) true 0 0) 161 (0, 0)))
    (hp : w.cell? ⟨pb, 0, none⟩ = some (.pointer (some ⟨b, 0, none⟩)))
    (h1 : w.heap[p1]? = some (.cells #[.slice none 0 0] 25 (0, 0))) (h2 : w.heap[p2]? = some (.cells #[.bool false] 4 (0, 0))) :
    Calls Tryz.prog 117 #[.pointer (some ⟨b, 3, none⟩), .func (.func 118) #[] #[.pointer (some ⟨pb, 0, none⟩), .pointer (some ⟨p1, 0, none⟩), .pointer (some ⟨p2, 0, none⟩)]] w
      fun e w' => e = .returned (.tuple #[]) ∧ (w'.heap[b]? = some (.cells (BC l (.slice none 0 0) false 1 0) 161 (0, 0)) ∧
        w'.heap[p1]? = some (.cells #[.slice (some ⟨g, 0, none⟩) n n] 25 (0, 0)) ∧ w'.heap[p2]? = some (.cells #[.bool true] 4 (0, 0))) ∧ Tn w w' [b, p1, p2] := by
  have K1 := Lib.hid (go2_calls b l g n pb p1 p2 w n1 n2 n3 n4 n5 n6 hb hp h1 h2)
  have K2 := Lib.hid (loadB ⟨b, 3, none⟩ 0 w (blk_cell hb 3) rfl)
  have hnot : ∀ (x : Bool) (w : World), (Op.unary .not (.bool x)).run Tryz.prog w = .ok (.bool (!x)) w := fun _ _ => rfl
  clear hb hp h1 h2 n1 n2 n3 n4 n5 n6
  go_enter Tryz.func117, Tryz.ntmps117
  go_wp2_with (go_at_call 52; refine K2.out.mono ?_; rintro e w' ⟨rfl, rfl⟩)
  refine K1.out.mono ?_
  rintro e w2 ⟨rfl, B2, T2⟩
  have HB2 := Lib.hid B2
  have HT2 := Lib.hid T2
  clear B2 T2
  go_wp2
  go_end0
  exact ⟨rfl, HB2.out, HT2.out⟩

/-- The Once, used up. -/
theorem go4_calls (b l : Nat) (fv : Value) (w : World) (h : BShut b l w) :
    Calls Tryz.prog 117 #[.pointer (some ⟨b, 3, none⟩), fv] w fun e w' => e = .returned (.tuple #[]) ∧ w = w' := by
  have K2 := Lib.hid (loadB ⟨b, 3, none⟩ 1 w (blk_cell h.blk 3) rfl)
  have hnot : ∀ (x : Bool) (w : World), (Op.unary .not (.bool x)).run Tryz.prog w = .ok (.bool (!x)) w := fun _ _ => rfl
  clear h
  go_enter Tryz.func117, Tryz.ntmps117
  go_wp2_with (go_at_call 52; refine K2.out.mono ?_; rintro e w' ⟨rfl, rfl⟩)
  go_end0
  exact ⟨rfl, rfl⟩

theorem gb_drewN (w : World) (n : Nat) (r : Option Nat) : w.grownBy (w.drewN n) r := ⟨rfl, rfl, rfl, Nat.le_refl _, fun _ _ _ => rfl⟩
theorem size_alloc (w : World) (o : Obj) : (w.alloc o).heap.size = w.heap.size + 1 := by show (w.heap.push o).size = _; simp
theorem blk_at {w : World} {o : Obj} : (w.alloc o).heap[w.heap.size]? = some o := by
  show (w.heap.push _)[w.heap.size]? = _
  rw [Array.getElem?_push_size]
theorem blk_al {w : World} {b : Nat} {x : Obj} (h : w.heap[b]? = some x) (o : Obj) : (w.alloc o).heap[b]? = some x := (Below.heap_alloc w o b (blk_lt h)).trans h

set_option maxRecDepth 100000 in
/-- It is let go now. -/
theorem let_yes (b l g : Nat) (s : ByteArray) (w : World) (h : BOpen b l g s w) :
    Calls Tryz.prog 94 #[.pointer (some ⟨b, 0, none⟩)] w
      fun e w' => e = .returned (.tuple #[.slice (some ⟨g, 0, none⟩) s.size s.size, .bool true]) ∧ BShut b l w' ∧ w.grownBy w' (some b) := by
  have hlt := h.lt
  have hbl := h.bl
  obtain ⟨w3, hw3⟩ : ∃ w3, (((w.alloc (.cells #[.pointer (some ⟨b, 0, none⟩)] 120)).alloc (.cells #[.slice none 0 0] 25)).alloc (.cells #[.bool false] 4)) = w3 := ⟨_, rfl⟩
  have B3 : w3.heap[b]? = some (.cells (BC l (.slice (some ⟨g, 0, none⟩) s.size s.size) true 0 0) 161 (0, 0)) := hw3 ▸ blk_al (blk_al (blk_al h.blk _) _) _
  have hmf : ∀ (fn : Fn) (first cap : Array Value) (w : World), (Instr.makeFunc fn first cap).run Tryz.prog w = .ok (.func fn first cap) w := fun _ _ _ _ => rfl
  have HB3 := Lib.hid B3
  have HW3 := Lib.hid hw3
  obtain ⟨n, hn⟩ : ∃ n, s.size = n := ⟨_, rfl⟩
  rw [hn] at HB3 ⊢
  clear h B3 hn
  clear hw3
  go_enter Tryz.func94, Tryz.ntmps94
  go_wp2_with fail
  obtain ⟨z, hz⟩ : ∃ z, w.heap.size = z := ⟨_, rfl⟩
  have HZ := Lib.hid hz
  refine (go3_calls b l g n w.heap.size (w.heap.size + 1) (w.heap.size + 1 + 1) _ (by omega) (by omega) (by omega) (by omega) (by omega) (by omega) (by rw [HW3.out]; exact HB3.out) ?_ ?_ ?_).mono ?_
  · exact blk_cell (blk_al (blk_al blk_at _) _) 0
  · have h := blk_at (w := w.alloc (.cells #[.pointer (some ⟨b, 0, none⟩)] 120)) (o := .cells #[.slice none 0 0] 25)
    rw [size_alloc] at h
    exact blk_al h _
  · have h := blk_at (w := (w.alloc (.cells #[.pointer (some ⟨b, 0, none⟩)] 120)).alloc (.cells #[.slice none 0 0] 25)) (o := .cells #[.bool false] 4)
    rw [size_alloc, size_alloc] at h
    exact h
  rintro e w2 ⟨rfl, ⟨B2, P2, Q2⟩, T2⟩
  have G : w.grownBy w2 (some b) := T2.own (gb_trans (gb_trans (World.grownBy_alloc _ _ _) (World.grownBy_alloc _ _ _)) (World.grownBy_alloc _ _ _)) (by
    intro x hx
    simp only [List.mem_cons, List.not_mem_nil, or_false] at hx
    rcases hx with rfl | rfl | rfl
    · exact .inr rfl
    · exact .inl (by omega)
    · exact .inl (by omega))
  have p1 := blk_cell P2 0
  have q1 := blk_cell Q2 0
  simp only [List.getElem?_toArray, List.getElem?_cons_zero] at p1 q1
  have HG := Lib.hid G
  have HB := Lib.hid B2
  clear G B2 P2 Q2 T2 hz HW3 HB3
  go_wp2
  go_quiet (fail)
  go_wp2
  go_ret2
  exact ⟨rfl, ⟨HB.out, hbl⟩, gb_trans HG.out (gb_drewN _ _ _)⟩

set_option maxRecDepth 100000 in
/-- It was let go ahead. -/
theorem let_no (b l : Nat) (w : World) (h : BShut b l w) :
    Calls Tryz.prog 94 #[.pointer (some ⟨b, 0, none⟩)] w
      fun e w' => e = .returned (.tuple #[.slice none 0 0, .bool false]) ∧ w.grownBy w' none := by
  have hlt := h.lt
  have hmf : ∀ (fn : Fn) (first cap : Array Value) (w : World), (Instr.makeFunc fn first cap).run Tryz.prog w = .ok (.func fn first cap) w := fun _ _ _ _ => rfl
  have H := Lib.hid h
  clear h
  go_enter Tryz.func94, Tryz.ntmps94
  go_wp2_with fail
  refine (go4_calls b l _ _ (((H.out.grown (World.grownBy_alloc _ _ none) (by simp)).grown (World.grownBy_alloc _ _ none) (by simp)).grown (World.grownBy_alloc _ _ none) (by simp))).mono ?_
  rintro e w' ⟨rfl, rfl⟩
  go_wp2
  go_quiet (fail)
  go_wp2
  go_ret2
  exact ⟨rfl, gb_trans (gb_trans (gb_trans (World.grownBy_alloc _ _ _) (World.grownBy_alloc _ _ _)) (World.grownBy_alloc _ _ _)) (gb_drewN _ _ _)⟩

theorem out_yes (b l g : Nat) (s : ByteArray) (w : World) (h : BOpen b l g s w) :
    Calls Tryz.prog 67 #[.pointer (some ⟨b, 0, none⟩)] w
      fun e w' => e = .returned (.tuple #[.slice (some ⟨g, 0, none⟩) s.size s.size, .bool true]) ∧ BShut b l w' ∧ w.grownBy w' (some b) := by
  -- letGo: 94
  have K := Lib.hid (let_yes b l g s w h)
  clear h
  go_enter Tryz.func67, Tryz.ntmps67
  go_wp2_with fail
  refine K.out.mono ?_
  rintro e w' ⟨rfl, h, g⟩
  have H := Lib.hid h
  have G := Lib.hid g
  clear h g
  go_wp2
  go_ret2
  exact ⟨rfl, H.out, G.out⟩

theorem out_no (b l : Nat) (w : World) (h : BShut b l w) :
    Calls Tryz.prog 67 #[.pointer (some ⟨b, 0, none⟩)] w
      fun e w' => e = .returned (.tuple #[.slice none 0 0, .bool false]) ∧ w.grownBy w' none := by
  -- letGo: 94
  have K := Lib.hid (let_no b l w h)
  clear h
  go_enter Tryz.func67, Tryz.ntmps67
  go_wp2_with fail
  refine K.out.mono ?_
  rintro e w' ⟨rfl, g⟩
  have G := Lib.hid g
  clear g
  go_wp2
  go_ret2
  exact ⟨rfl, G.out⟩

/-- Freed: the ledger has its bytes back. -/
theorem free_yes (b l g : Nat) (s : ByteArray) (x : St) (w : World) (h : BOpen b l g s w) (hl : Led l x.ls w) (ok : x.Ok) :
    Calls Tryz.prog 76 #[.pointer (some ⟨b, 0, none⟩)] w
      fun e w' => e = .returned (.bool true) ∧ (BShut b l w' ∧ Led l (x.give s.size).1.ls w') ∧ Tn w w' [b, l] := by
  -- letGo: 94
  have K := Lib.hid (let_yes b l g s w h)
  have hne : some l ≠ some b := by have := h.bl; simpa using fun e => this e.symm
  have hne' : b ≠ l := h.bl
  have HL := Lib.hid hl
  have OK := Lib.hid ok
  obtain ⟨n, hn⟩ : ∃ n, s.size = n := ⟨_, rfl⟩
  have big : n ≤ 2147483647 := hn ▸ h.big
  rw [hn] at K ⊢
  clear h hl hn ok
  go_enter Tryz.func76, Tryz.ntmps76
  go_wp2_with fail
  refine K.out.mono ?_
  rintro e w2 ⟨rfl, h2, g2⟩
  have H2 := Lib.hid h2
  have G2 := Lib.hid g2
  have c0 : w2.cell? ⟨b, 0, none⟩ = some (.pointer (some ⟨l, 0, none⟩)) := blk_cell h2.blk 0
  have L2 := Lib.hid (HL.out.grown g2 hne)
  clear h2 g2
  go_wp2_with fail
  refine (give_calls l x n w2 L2.out OK.out).mono ?_
  rintro e w3 ⟨rfl, l3, g3⟩
  have L3 := Lib.hid l3
  have G3 := Lib.hid g3
  clear l3 g3
  go_wp2
  go_ret
  refine ⟨rfl, ⟨H2.out.grown G3.out (by simpa using hne'), L3.out⟩, ?_⟩
  exact (Tn.gb G2.out (fun x e => by simp at e; simp [e])).trans (Tn.gb G3.out (fun x e => by simp at e; simp [e]))

theorem free_no (b l : Nat) (w : World) (h : BShut b l w) :
    Calls Tryz.prog 76 #[.pointer (some ⟨b, 0, none⟩)] w fun e w' => e = .returned (.bool false) ∧ w.grownBy w' none := by
  -- letGo: 94
  have K := Lib.hid (let_no b l w h)
  clear h
  go_enter Tryz.func76, Tryz.ntmps76
  go_wp2_with fail
  refine K.out.mono ?_
  rintro e w' ⟨rfl, g⟩
  have G := Lib.hid g
  clear g
  go_wp2
  go_ret
  exact ⟨rfl, G.out⟩

end Go.Proofs.YtjdhlehpoclnjaaGreat.Bu
