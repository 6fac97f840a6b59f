/- Layer 30: names of formats: extensions, the map of endings (written by wip/gen/sn4.py). -/
import Derived.Test.YtibbebglbcjnmaaDoorSn3
import Derived.Maps.OwnSet
import Derived.Deep.LoopGhost
namespace Go.Proofs.YtibbebglbcjnmaaDoor.Sn
open Go.ChangeShapes Go.WideShapes Go.ChangeAt Go.RowKit Go.Maps
open Go.Proofs.YtibbebglbcjnmaaDoor.Le Go.Proofs.YtibbebglbcjnmaaDoor.Tk
set_option linter.unusedVariables false

/-- An entry of a map's literal. -/
theorem wpList_insert_own {H : Type} {P : Program} (w : World) {ops : Array Oper} {rest : List Oper} {o : Oper} {a : Act} {Q : Exit → Act → World → Prop}
    (hg : o.guard = none) (m x v : Operand) (t : TypeId) (hop : o.op = Op.insert t m x v)
    (k e : TypeId) (K : Keyed P k) (ht : P.underlying t = some (.map k e)) (R : Value → Option (DataW H × List MemPlace)) (b n : Nat) (D : DataW H)
    (hm : a.eval m = .map (some b)) (hown : w.ownsMap P k R b n D) (hn : n < maxLen) (key val : Value) (kl : Lit) (hx : a.eval x = key) (hv : a.eval v = val) (hkey : keyOf P k key = some kl)
    (d : DataW H) (ps : List MemPlace) (hval : R val = some (d, ps))
    (hK : ∀ w', w'.ownsMap P k R b (n + 1) (D.put kl d) → w.grownBy w' (some b) → wpList P ops Q rest (a.put o.dst undef) w') :
    wpList P ops Q (o :: rest) a w := by
  refine wpList_plain hg fun K' hK' => ?_
  obtain ⟨w', hrun, r1, r2⟩ := hown.update K ht hn hkey hval
  unfold Oper.wp
  simp [execOp, hop, hm, hx, hv, hrun, Result.andThen]
  exact hK' _ _ (hK w' r1 r2)

/-- The endings, in the order in which they are laid. -/
def kvs : Nat → List UInt8 × Nat
  | 0 => ([100, 105, 98], 1)
  | 1 => ([112, 98, 109], 3)
  | 2 => ([112, 103, 109], 3)
  | 3 => ([112, 110, 109], 3)
  | 4 => ([99, 117, 114], 4)
  | 5 => ([115, 117, 110], 8)
  | 6 => ([98, 109, 112], 1)
  | 7 => ([112, 112, 109], 3)
  | 8 => ([113, 111, 105], 5)
  | 9 => ([102, 102], 6)
  | 10 => ([114, 97, 115], 8)
  | 11 => ([112, 99, 120], 7)
  | 12 => ([105, 99, 111], 4)
  | 13 => ([116, 103, 97], 2)
  | _ => ([], 1)
theorem keylit {l : List UInt8} : WideAt.IsKeyLit (.string l) := by simp [WideAt.IsKeyLit]
def DD : Nat → DataW Unit
  | 0 => .map []
  | i + 1 => (DD i).put (.string (kvs i).1) (.lit (.int .i64 (kvs i).2))
/-- The format that an ending names; 0: none. -/
def look (l : List UInt8) : Nat → Nat
  | 0 => 0
  | i + 1 => if l = (kvs i).1 then (kvs i).2 else look l i
theorem DD_map : ∀ i, IsMap (DD i)
  | 0 => isMap_empty
  | i + 1 => (DD_map i).put _ _
theorem DD_at (l : List UInt8) : ∀ i, (DD i).atKey (.string l) (.lit (.int .i64 0)) = .lit (.int .i64 (look l i : Nat))
  | 0 => rfl
  | i + 1 => by
    show ((DD i).put _ _).atKey _ _ = _
    unfold look
    by_cases h : l = (kvs i).1
    · rw [if_pos h, ← h, atKey_put_same (DD_map i) keylit]
    · rw [if_neg h, atKey_put_other (fun e => h (by cases e; rfl)), DD_at l i]
theorem kvs_pos (i : Nat) : (kvs i).2 ≠ 0 := by
  unfold kvs
  split <;> simp
theorem DD_has (l : List UInt8) : ∀ i, Maps.has (DD i) (.string l) = decide (look l i ≠ 0)
  | 0 => rfl
  | i + 1 => by
    show Maps.has ((DD i).put _ _) _ = _
    unfold look
    by_cases h : l = (kvs i).1
    · rw [if_pos h, ← h, has_put_same (DD_map i) keylit, decide_eq_true (kvs_pos i)]
    · rw [if_neg h, has_put_other (fun e => h (by cases e; rfl)), DD_has l i]
/-- A format's extension. -/
def extB : Nat → ByteArray
  | 1 => ⟨#[98, 109, 112]⟩
  | 2 => ⟨#[116, 103, 97]⟩
  | 3 => ⟨#[112, 112, 109]⟩
  | 4 => ⟨#[105, 99, 111]⟩
  | 5 => ⟨#[113, 111, 105]⟩
  | 6 => ⟨#[102, 102]⟩
  | 7 => ⟨#[112, 99, 120]⟩
  | 8 => ⟨#[114, 97, 115]⟩
  | _ => ⟨#[]⟩
theorem ext_1 (W : World) : Calls Tryd.prog 15 #[.int .i64 1] W fun e w' => e = .returned (.string (extB 1)) ∧ W = w' := by
  go_enter Tryd.func15, Tryd.ntmps15
  go_wp2
  go_ret
  exact ⟨rfl, rfl⟩
theorem ext_2 (W : World) : Calls Tryd.prog 15 #[.int .i64 2] W fun e w' => e = .returned (.string (extB 2)) ∧ W = w' := by
  go_enter Tryd.func15, Tryd.ntmps15
  go_wp2
  go_ret
  exact ⟨rfl, rfl⟩
theorem ext_3 (W : World) : Calls Tryd.prog 15 #[.int .i64 3] W fun e w' => e = .returned (.string (extB 3)) ∧ W = w' := by
  go_enter Tryd.func15, Tryd.ntmps15
  go_wp2
  go_ret
  exact ⟨rfl, rfl⟩
theorem ext_4 (W : World) : Calls Tryd.prog 15 #[.int .i64 4] W fun e w' => e = .returned (.string (extB 4)) ∧ W = w' := by
  go_enter Tryd.func15, Tryd.ntmps15
  go_wp2
  go_ret
  exact ⟨rfl, rfl⟩
theorem ext_5 (W : World) : Calls Tryd.prog 15 #[.int .i64 5] W fun e w' => e = .returned (.string (extB 5)) ∧ W = w' := by
  go_enter Tryd.func15, Tryd.ntmps15
  go_wp2
  go_ret
  exact ⟨rfl, rfl⟩
theorem ext_6 (W : World) : Calls Tryd.prog 15 #[.int .i64 6] W fun e w' => e = .returned (.string (extB 6)) ∧ W = w' := by
  go_enter Tryd.func15, Tryd.ntmps15
  go_wp2
  go_ret
  exact ⟨rfl, rfl⟩
theorem ext_7 (W : World) : Calls Tryd.prog 15 #[.int .i64 7] W fun e w' => e = .returned (.string (extB 7)) ∧ W = w' := by
  go_enter Tryd.func15, Tryd.ntmps15
  go_wp2
  go_ret
  exact ⟨rfl, rfl⟩
theorem ext_8 (W : World) : Calls Tryd.prog 15 #[.int .i64 8] W fun e w' => e = .returned (.string (extB 8)) ∧ W = w' := by
  go_enter Tryd.func15, Tryd.ntmps15
  go_wp2
  go_ret
  exact ⟨rfl, rfl⟩
theorem ext_calls (k : Nat) (h1 : 1 ≤ k) (h8 : k ≤ 8) (W : World) : Calls Tryd.prog 15 #[.int .i64 (k : Nat)] W fun e w' => e = .returned (.string (extB k)) ∧ W = w' := by
  obtain rfl | rfl | rfl | rfl | rfl | rfl | rfl | rfl : k = 1 ∨ k = 2 ∨ k = 3 ∨ k = 4 ∨ k = 5 ∨ k = 6 ∨ k = 7 ∨ k = 8 := by omega
  · exact ext_1 W
  · exact ext_2 W
  · exact ext_3 W
  · exact ext_4 W
  · exact ext_5 W
  · exact ext_6 W
  · exact ext_7 W
  · exact ext_8 W

theorem ext_none (f : Int) (h : f < 1 ∨ 8 < f) (W : World) : Calls Tryd.prog 15 #[.int .i64 f] W fun e w' => e = .returned (.string ⟨#[]⟩) ∧ W = w' := by
  have d1 : (f == 1) = false := by rw [beq_eq_false_iff_ne]; omega
  have n1 : ¬ f = 1 := by omega
  have d2 : (f == 2) = false := by rw [beq_eq_false_iff_ne]; omega
  have n2 : ¬ f = 2 := by omega
  have d3 : (f == 3) = false := by rw [beq_eq_false_iff_ne]; omega
  have n3 : ¬ f = 3 := by omega
  have d4 : (f == 4) = false := by rw [beq_eq_false_iff_ne]; omega
  have n4 : ¬ f = 4 := by omega
  have d5 : (f == 5) = false := by rw [beq_eq_false_iff_ne]; omega
  have n5 : ¬ f = 5 := by omega
  have d6 : (f == 6) = false := by rw [beq_eq_false_iff_ne]; omega
  have n6 : ¬ f = 6 := by omega
  have d7 : (f == 7) = false := by rw [beq_eq_false_iff_ne]; omega
  have n7 : ¬ f = 7 := by omega
  have d8 : (f == 8) = false := by rw [beq_eq_false_iff_ne]; omega
  have n8 : ¬ f = 8 := by omega
  clear h
  go_enter Tryd.func15, Tryd.ntmps15
  go_wp2
  go_ret
  exact ⟨rfl, rfl⟩
theorem ord_bd (j : Nat) (h : j < 8) : 1 ≤ ordN j ∧ ordN j ≤ 8 := by
  obtain rfl | rfl | rfl | rfl | rfl | rfl | rfl | rfl : j = 0 ∨ j = 1 ∨ j = 2 ∨ j = 3 ∨ j = 4 ∨ j = 5 ∨ j = 6 ∨ j = 7 := by omega
  all_goals decide
theorem ord_kv (j : Nat) (h : j < 8) : kvs (6 + j) = ((extB (ordN j)).data.toList, ordN j) := by
  obtain rfl | rfl | rfl | rfl | rfl | rfl | rfl | rfl : j = 0 ∨ j = 1 ∨ j = 2 ∨ j = 3 ∨ j = 4 ∨ j = 5 ∨ j = 6 ∨ j = 7 := by omega
  all_goals rfl
theorem ext_le (k : Nat) : (extB k).size ≤ 3 := by
  unfold extB
  split <;> decide

theorem mlaw : Keyed Tryd.prog 9 := string_keyed Tryd.underlying9

set_option maxRecDepth 100000 in
set_option maxHeartbeats 4000000 in
theorem endings_calls (W : World) (HT : OrdT W) : Calls Tryd.prog 29 #[] W fun e w' => ∃ M, e = .returned (.map (some M)) ∧ w'.ownsMap Tryd.prog 9 (plainElem Tryd.prog 3) M 14 (DD 14) ∧ W.grownBy w' none := by
  have hmm := @run_makeMap Tryd.prog
  have HT := Lib.hid HT
  have hown0 := (World.ownsMap_made W Tryd.prog 9 (plainElem (H := Unit) Tryd.prog 3))
  go_enter Tryd.func29, Tryd.ntmps29
  go_wp2_with (first
    | (refine wpList_insert_own _ rfl _ _ _ 39 rfl 9 3 mlaw Tryd.underlying39 _ W.heap.size 0 (DD 0) rfl hown0 (by unfold maxLen; omega) (.string ⟨#[100, 105, 98]⟩) (.int .i64 1) (.string [100, 105, 98]) rfl rfl (Go.WideMaps.keyOf_string_mk Tryd.underlying9 (by decide)) (.lit (.int .i64 1)) [] (plainElem_int Tryd.underlying3 (by decide)) ?_; intro w1 hown1 hg1)
    | (refine wpList_insert_own _ rfl _ _ _ 39 rfl 9 3 mlaw Tryd.underlying39 _ W.heap.size 1 (DD 1) rfl hown1 (by unfold maxLen; omega) (.string ⟨#[112, 98, 109]⟩) (.int .i64 3) (.string [112, 98, 109]) rfl rfl (Go.WideMaps.keyOf_string_mk Tryd.underlying9 (by decide)) (.lit (.int .i64 3)) [] (plainElem_int Tryd.underlying3 (by decide)) ?_; intro w2 hown2 hg2)
    | (refine wpList_insert_own _ rfl _ _ _ 39 rfl 9 3 mlaw Tryd.underlying39 _ W.heap.size 2 (DD 2) rfl hown2 (by unfold maxLen; omega) (.string ⟨#[112, 103, 109]⟩) (.int .i64 3) (.string [112, 103, 109]) rfl rfl (Go.WideMaps.keyOf_string_mk Tryd.underlying9 (by decide)) (.lit (.int .i64 3)) [] (plainElem_int Tryd.underlying3 (by decide)) ?_; intro w3 hown3 hg3)
    | (refine wpList_insert_own _ rfl _ _ _ 39 rfl 9 3 mlaw Tryd.underlying39 _ W.heap.size 3 (DD 3) rfl hown3 (by unfold maxLen; omega) (.string ⟨#[112, 110, 109]⟩) (.int .i64 3) (.string [112, 110, 109]) rfl rfl (Go.WideMaps.keyOf_string_mk Tryd.underlying9 (by decide)) (.lit (.int .i64 3)) [] (plainElem_int Tryd.underlying3 (by decide)) ?_; intro w4 hown4 hg4)
    | (refine wpList_insert_own _ rfl _ _ _ 39 rfl 9 3 mlaw Tryd.underlying39 _ W.heap.size 4 (DD 4) rfl hown4 (by unfold maxLen; omega) (.string ⟨#[99, 117, 114]⟩) (.int .i64 4) (.string [99, 117, 114]) rfl rfl (Go.WideMaps.keyOf_string_mk Tryd.underlying9 (by decide)) (.lit (.int .i64 4)) [] (plainElem_int Tryd.underlying3 (by decide)) ?_; intro w5 hown5 hg5)
    | (refine wpList_insert_own _ rfl _ _ _ 39 rfl 9 3 mlaw Tryd.underlying39 _ W.heap.size 5 (DD 5) rfl hown5 (by unfold maxLen; omega) (.string ⟨#[115, 117, 110]⟩) (.int .i64 8) (.string [115, 117, 110]) rfl rfl (Go.WideMaps.keyOf_string_mk Tryd.underlying9 (by decide)) (.lit (.int .i64 8)) [] (plainElem_int Tryd.underlying3 (by decide)) ?_; intro w6 hown6 hg6; have HG6 := Lib.hid (gb_own (gb_own (gb_own (gb_own (gb_own (gb_own (World.grownBy_alloc W (.map #[] 0) none) (Nat.le_refl _) hg1) (Nat.le_refl _) hg2) (Nat.le_refl _) hg3) (Nat.le_refl _) hg4) (Nat.le_refl _) hg5) (Nat.le_refl _) hg6); have HO := Lib.hid hown6; have t6 : OrdT w6 := HT.out.grown HG6.out (fun b e => by cases e); have g0 := t6 0 (by decide); have g1 := t6 1 (by decide); have g2 := t6 2 (by decide); have g3 := t6 3 (by decide); have g4 := t6 4 (by decide); have g5 := t6 5 (by decide); have g6 := t6 6 (by decide); have g7 := t6 7 (by decide); simp only [ordN, ordL, List.getD_cons_zero, List.getD_cons_succ] at g0 g1 g2 g3 g4 g5 g6 g7; clear hown6 hg1 hg2 hg3 hg4 hg5 hg6 t6 hown0 hown1 hown2 hown3 hown4 hown5 hmm)
    | fail)
  go_loopg [7] 9 (fun q jv wr => ∃ j : Nat, j ≤ 8 ∧ q = 9 - j ∧ jv = .int .i64 j ∧ wr.ownsMap Tryd.prog 9 (plainElem (H := Unit) Tryd.prog 3) W.heap.size (6 + j) (DD (6 + j)) ∧ W.grownBy wr none)
  case atStart => exact ⟨0, Nat.zero_le _, rfl, rfl, HO.out, HG6.out⟩
  case round =>
    obtain ⟨j, hj, rfl, rfl, hown, G⟩ := hrel
    have HG := Lib.hid G
    clear G HO HG6 g0 g1 g2 g3 g4 g5 g6 g7
    by_cases hlt : j < 8
    · have e1 : decide ((j : Int) < 8) = true := decide_eq_true (by omega)
      have hidx := ord_idx j hlt
      unfold ordV at hidx
      have KE := fun u => ext_calls (ordN j) (ord_bd j hlt).1 (ord_bd j hlt).2 u
      have hkv := ord_kv j hlt
      have hsz := ext_le (ordN j)
      have hbd := ord_bd j hlt
      obtain ⟨x, hx⟩ : ∃ x, extB (ordN j) = x := ⟨_, rfl⟩
      rw [hx] at KE hkv hsz
      obtain ⟨f, hf⟩ : ∃ f, ordN j = f := ⟨_, rfl⟩
      rw [hf] at KE hkv hidx hbd
      have KE := Lib.hid KE
      have HKV := Lib.hid hkv
      have hlen : x.size ≤ maxLen := by unfold maxLen; omega
      have hwf : (Lit.int .i64 (f : Nat)).wf = true := WalkArith.wf_i64 (by omega)
      have hroom : 6 + j < maxLen := by unfold maxLen; omega
      clear hx hf hkv hsz hbd
      go_wp2_with fail
      refine (KE.out _).mono ?_
      rintro e w' ⟨rfl, rfl⟩
      clear KE
      go_wp2_with (first
        | (at_mapUpdate; refine wpList_mapUpdate_own _ rfl _ _ _ 39 rfl 9 3 mlaw Tryd.underlying39 _ W.heap.size (6 + j) (DD (6 + j)) rfl hown hroom (.string x) (.int .i64 (f : Nat)) (.string x.data.toList) rfl rfl (Go.WideMaps.keyOf_string_mk Tryd.underlying9 hlen) (.lit (.int .i64 (f : Nat))) [] (plainElem_int Tryd.underlying3 hwf) ?_; intro w1 hown1 hg1)
        | go_in)
      go_roundg (9 - (j + 1))
      case measure => omega
      case rel => exact ⟨j + 1, hlt, rfl, by go_num, by
        have e : DD (6 + (j + 1)) = (DD (6 + j)).put (.string x.data.toList) (.lit (.int .i64 (f : Nat))) := by
          show (DD (6 + j)).put (.string (kvs (6 + j)).1) (.lit (.int .i64 (kvs (6 + j)).2)) = _
          rw [HKV.out]
        rw [e]
        exact hown1, gb_own HG.out (Nat.le_refl _) hg1⟩
    · obtain rfl : j = 8 := by omega
      have HO := Lib.hid hown
      clear hown
      go_wp2
      go_ret
      exact ⟨_, rfl, HO.out, HG.out⟩

end Go.Proofs.YtibbebglbcjnmaaDoor.Sn
