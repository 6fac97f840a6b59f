/- Layer 24: the document's Read, over the entries (written by wip/gen/id6.py). -/
import Derived.Test.YtajbpcaghmcplaaId7
namespace Go.Proofs.Ytajbpcaghmcplaa.Id
open Go.ChangeShapes Go.WideShapes Go.ChangeAt Go.RowKit
open Go.Proofs.Ytajbpcaghmcplaa.Le Go.Proofs.Ytajbpcaghmcplaa.Sr Go.Proofs.Ytajbpcaghmcplaa.Dh
set_option linter.unusedVariables false

set_option maxRecDepth 100000 in
set_option maxHeartbeats 16000000 in
theorem rread_loop_t (T : ByteArray) (hbg : T.size ≤ 4611686018427387904) (h : 6 ≤ T.size) (hw : w2 T 0 = 0) (ht : w2 T 2 = 1 ∨ w2 T 2 = 2) (c : Nat) (hc : w2 T 4 = c) (hc0 : c ≠ 0) (hcu : (((w2 T 2 : Nat) : Int) == 2) = true) (K : Nat) (hK : FK T 0 c K) (RV : Array Value) (hend : (K = c ∧ RV = rdV true c (bst T 0 true c : Nat) (cW T 0 true c : Nat) (cH T 0 true c : Nat) (cA T 0 true c : Nat) (cB T 0 true c : Nat) (cS T 0 true c : Nat) (cP T 0 true c : Nat) 0 0) ∨ (K < c ∧ T.size < qE 0 K + 16 ∧ RV = rdV false 0 0 0 0 0 0 0 0 1 (T.size : Nat)) ∨ (K < c ∧ qE 0 K + 16 ≤ T.size ∧ RV = rdV false 0 0 0 0 0 0 0 0 2 ((qE 0 K + 12 : Nat)))) (W : World) :
    Calls Try.prog 11 #[.string T] W fun e w' => e = .returned (.agg RV) ∧ W.grownBy w' none := by
  have l0 : 0 < T.size := by omega
  have l1 : 1 < T.size := by omega
  have i0 : (0 : Int) < (T.size : Int) := by omega
  have i1 : (1 : Int) < (T.size : Int) := by omega
  have j0 : (T[0]'l0).toNat = bn T 0 := bn_at T 0 l0
  have j1 : (T[1]'l1).toNat = bn T 1 := bn_at T 1 l1
  have KT := fun u => le2_is T 2 (by omega) u
  have KC := fun u => le2_is T 4 (by omega) u
  have s1 : ∀ w, (Instr.slice 9 (.string T) (some (.int .i64 2)) (some (.int .i64 4)) none).run Try.prog w = .ok (.string (T.extract 2 (2 + 2))) w := fun w => cut_at T 2 2 (by omega) w
  have s2 : ∀ w, (Instr.slice 9 (.string T) (some (.int .i64 4)) (some (.int .i64 6)) none).run Try.prog w = .ok (.string (T.extract 4 (4 + 2))) w := fun w => cut_at T 4 2 (by omega) w
  have hsz : ¬ (T.size : Int) < 6 := by omega
  obtain ⟨n0, e0⟩ : ∃ n, bn T 0 = n := ⟨_, rfl⟩
  obtain ⟨n1, e1⟩ : ∃ n, bn T 1 = n := ⟨_, rfl⟩
  rw [e0] at j0
  rw [e1] at j1
  have z0 : n0 = 0 := by unfold w2 at hw; rw [Nat.zero_add, e0, e1] at hw; omega
  have z1 : n1 = 0 := by unfold w2 at hw; rw [Nat.zero_add, e0, e1] at hw; omega
  subst z0 z1
  clear hw e0 e1
  have hcb := w2_lt T 4
  rw [hc] at KC hcb
  have KC := Lib.hid KC
  have g0 : (((c : Nat) : Int) == 0) = false := by rw [beq_eq_false_iff_ne]; omega
  have g0' : ¬ ((c : Nat) : Int) = 0 := by omega
  obtain ⟨t, et⟩ : ∃ n, w2 T 2 = n := ⟨_, rfl⟩
  rw [et] at KT ht hcu
  have KT := Lib.hid KT
  have f12 : (((t : Nat) : Int) != 1) = (((t : Nat) : Int) == 2) := by rcases ht with rfl | rfl <;> rfl
  have f22 : (((t : Nat) : Int) != 2) = !(((t : Nat) : Int) == 2) := by rcases ht with rfl | rfl <;> rfl
  rw [hcu] at f12 f22
  have HEND := Lib.hid hend
  have HFK := Lib.hid hK
  have hKc := hK.le
  clear hend hK et ht hc
  obtain ⟨en, hen⟩ : ∃ e, 6 + 16 * c = e := ⟨_, rfl⟩
  have we1 : IntKind.i64.wrap (16 * (c : Int)) = 16 * (c : Int) := IntWalk.i64_in _ (by omega)
  have we2 : IntKind.i64.wrap (6 + 16 * (c : Int)) = (en : Int) := by rw [IntWalk.i64_in _ (by omega)]; omega
  have we3 : 6 + 16 * (c : Int) = (en : Int) := by omega
  have hbig : T.size ≤ 9223372036854775807 := by omega
  go_enter Try.func11, Try.ntmps11
  go_upto_region 3 with fail
  have R0 := blk_at (w := W) (o := .cells #[.bool false, .int .i64 0, .int .i64 0, .int .i64 0, .int .i64 0, .int .i64 0, .int .i64 0, .int .i64 0, .int .i64 0, .int .i64 0, .int .i64 0] 43)
  have G0 := World.grownBy_alloc W (.cells #[.bool false, .int .i64 0, .int .i64 0, .int .i64 0, .int .i64 0, .int .i64 0, .int .i64 0, .int .i64 0, .int .i64 0, .int .i64 0, .int .i64 0] 43) none
  generalize W.alloc (.cells #[.bool false, .int .i64 0, .int .i64 0, .int .i64 0, .int .i64 0, .int .i64 0, .int .i64 0, .int .i64 0, .int .i64 0, .int .i64 0, .int .i64 0] 43) = w0 at R0 G0 ⊢
  have HR0 := Lib.hid R0
  have HG0 := Lib.hid G0
  clear R0 G0
  go_wp2_with fail
  refine (KT.out _).mono ?_
  rintro e w' ⟨rfl, rfl⟩
  go_wp2_with fail
  refine (KC.out _).mono ?_
  rintro e w' ⟨rfl, rfl⟩
  go_upto_region 9 with fail
  have I1 : Ri W w0.heap.size (rB true c 0 0 0 0 0 0 0) _ := ⟨blk_al HR0.out (.cells (rB true c 0 0 0 0 0 0 0) 43), blk_at, blk_lt HR0.out, gb_trans HG0.out (World.grownBy_alloc _ _ none)⟩
  unfold rB at I1
  obtain ⟨D, hD⟩ : ∃ D, w0.heap.size = D := ⟨_, rfl⟩
  rw [hD] at I1 ⊢
  generalize w0.alloc _ = w1 at I1 ⊢
  clear hD HR0 HG0 KT KC s1 s2 j0 j1 i0 i1
  have HI1 := Lib.hid (show Ri W D (rB true c 0 0 0 0 0 0 0) w1 from I1)
  have d1 : w1.cell? ⟨D, 1, none⟩ = some (.int .i64 (c : Nat)) := blk_cell I1.d 1
  have hWD := I1.lt
  clear I1
  go_wp2_with fail
  clear d1
  go_loopg [5] c (fun m iv wr => ∃ i r wx hx ax bx sx px : Nat, i ≤ K ∧ bst T 0 true i = r ∧ cW T 0 true i = wx ∧ cH T 0 true i = hx ∧ cA T 0 true i = ax ∧ cB T 0 true i = bx ∧ cS T 0 true i = sx ∧ cP T 0 true i = px ∧ Ri W D (rB true c r wx hx ax bx sx px) wr ∧ m = c - i ∧ iv = .int .i64 (i : Nat))
  case atStart => exact ⟨0, 0, 0, 0, 0, 0, 0, 0, Nat.zero_le _, rfl, rfl, rfl, rfl, rfl, rfl, rfl, HI1.out, rfl, rfl⟩
  case round =>
    obtain ⟨i, r, wx, hx, ax, bx, sx, px, hiK, er, ew, eh, ea, eb, es, ep, hI, rfl, rfl⟩ := hrel
    clear HI1
    have HI := Lib.hid hI
    by_cases hic : i = c
    · obtain ⟨-, rfl⟩ | ⟨h9, _⟩ | ⟨h9, _⟩ := HEND.out
      rotate_left
      · omega
      · omega
      subst hic
      have hdv : rdV true (i : Nat) (bst T 0 true i : Nat) (cW T 0 true i : Nat) (cH T 0 true i : Nat) (cA T 0 true i : Nat) (cB T 0 true i : Nat) (cS T 0 true i : Nat) (cP T 0 true i : Nat) 0 0 = #[.bool true, .int .i64 (i : Nat), .int .i64 (r : Nat), .int .i64 (wx : Nat), .int .i64 (hx : Nat), .int .i64 (ax : Nat), .int .i64 (bx : Nat), .int .i64 (sx : Nat), .int .i64 (px : Nat), .int .i64 0, .int .i64 0] := by
        unfold rdV
        rw [er, ew, eh, ea, eb, es, ep]
      have HDV := Lib.hid hdv
      clear hdv er ew eh ea eb es ep
      have r0 := blk_cell hI.r 0
      have rz0 := blk_free hI.r 0
      have r1 := blk_cell hI.r 1
      have rz1 := blk_free hI.r 1
      have r2 := blk_cell hI.r 2
      have rz2 := blk_free hI.r 2
      have r3 := blk_cell hI.r 3
      have rz3 := blk_free hI.r 3
      have r4 := blk_cell hI.r 4
      have rz4 := blk_free hI.r 4
      have r5 := blk_cell hI.r 5
      have rz5 := blk_free hI.r 5
      have r6 := blk_cell hI.r 6
      have rz6 := blk_free hI.r 6
      have r7 := blk_cell hI.r 7
      have rz7 := blk_free hI.r 7
      have r8 := blk_cell hI.r 8
      have rz8 := blk_free hI.r 8
      have r9 := blk_cell hI.r 9
      have rz9 := blk_free hI.r 9
      have r10 := blk_cell hI.r 10
      have rz10 := blk_free hI.r 10
      simp only [List.getElem?_toArray, List.getElem?_cons_succ, List.getElem?_cons_zero] at r0 r1 r2 r3 r4 r5 r6 r7 r8 r9 r10
      have rl := blk_lt hI.r
      have d0 := blk_cell hI.d 0
      have dz0 := blk_free hI.d 0
      have d1 := blk_cell hI.d 1
      have dz1 := blk_free hI.d 1
      have d2 := blk_cell hI.d 2
      have dz2 := blk_free hI.d 2
      have d3 := blk_cell hI.d 3
      have dz3 := blk_free hI.d 3
      have d4 := blk_cell hI.d 4
      have dz4 := blk_free hI.d 4
      have d5 := blk_cell hI.d 5
      have dz5 := blk_free hI.d 5
      have d6 := blk_cell hI.d 6
      have dz6 := blk_free hI.d 6
      have d7 := blk_cell hI.d 7
      have dz7 := blk_free hI.d 7
      have d8 := blk_cell hI.d 8
      have dz8 := blk_free hI.d 8
      have d9 := blk_cell hI.d 9
      have dz9 := blk_free hI.d 9
      have d10 := blk_cell hI.d 10
      have dz10 := blk_free hI.d 10
      simp only [rB, List.getElem?_toArray, List.getElem?_cons_succ, List.getElem?_cons_zero] at d0 d1 d2 d3 d4 d5 d6 d7 d8 d9 d10
      have dl := blk_lt hI.d
      clear hI HEND HFK
      go_wp2
      refine bodyPost_ret (v := .agg #[.bool true, .int .i64 (i : Nat), .int .i64 (r : Nat), .int .i64 (wx : Nat), .int .i64 (hx : Nat), .int .i64 (ax : Nat), .int .i64 (bx : Nat), .int .i64 (sx : Nat), .int .i64 (px : Nat), .int .i64 0, .int .i64 0]) (by simp only [results, Try.results11]; go_simp) rfl ⟨by rw [HDV.out], ?_⟩
      exact gb11 HI.out.g (Nat.le_refl _) _ _ _ _ _ _ _ _ _ _ _
    have hlt : i < c := by omega
    have hlti : (i : Int) < (c : Int) := by omega
    obtain ⟨Q, hQ⟩ : ∃ Q, qE 0 i = Q := ⟨_, rfl⟩
    have hQ2 : Q = 6 + 16 * i := by rw [← hQ]; unfold qE; omega
    have HQ := Lib.hid hQ2
    have m1 : IntKind.i64.wrap (16 * (i : Int)) = 16 * (i : Int) := IntWalk.i64_in _ (by omega)
    have m2 : IntKind.i64.wrap (22 + 16 * (i : Int)) = 22 + 16 * (i : Int) := IntWalk.i64_in _ (by omega)
    have d0 := blk_cell hI.d 0
    have dz0 := blk_free hI.d 0
    have d1 := blk_cell hI.d 1
    have dz1 := blk_free hI.d 1
    have d2 := blk_cell hI.d 2
    have dz2 := blk_free hI.d 2
    have d3 := blk_cell hI.d 3
    have dz3 := blk_free hI.d 3
    have d4 := blk_cell hI.d 4
    have dz4 := blk_free hI.d 4
    have d5 := blk_cell hI.d 5
    have dz5 := blk_free hI.d 5
    have d6 := blk_cell hI.d 6
    have dz6 := blk_free hI.d 6
    have d7 := blk_cell hI.d 7
    have dz7 := blk_free hI.d 7
    have d8 := blk_cell hI.d 8
    have dz8 := blk_free hI.d 8
    have d9 := blk_cell hI.d 9
    have dz9 := blk_free hI.d 9
    have d10 := blk_cell hI.d 10
    have dz10 := blk_free hI.d 10
    simp only [rB, List.getElem?_toArray, List.getElem?_cons_succ, List.getElem?_cons_zero] at d0 d1 d2 d3 d4 d5 d6 d7 d8 d9 d10
    have dl := blk_lt hI.d
    clear hic hI
    by_cases hsh : T.size < Q + 16
    · have hs1 : (T.size : Int) < 22 + 16 * (i : Int) := by omega
      obtain ⟨h9, _⟩ | ⟨-, -, hRV⟩ | ⟨hK2, h9, _⟩ := HEND.out
      · exfalso
        have := (HFK.out.yes i (by omega)).1
        rw [hQ] at this
        omega
      rotate_left
      · exfalso
        by_cases h : i < K
        · have := (HFK.out.yes i h).1
          rw [hQ] at this
          omega
        · have e : K = i := by omega
          rw [e, hQ] at h9
          omega
      subst hRV
      clear hsh HEND HFK
      have R0 := HI.out.r
      go_wp2_with fail
      refine (rbad_calls 1 ((T.size : Nat) : Int) _).mono ?_
      rintro e w9 ⟨rfl, g9⟩
      have R9 := old0 g9 R0 (blk_lt R0) (by simp)
      have r0 := blk_cell R9 0
      have rz0 := blk_free R9 0
      have r1 := blk_cell R9 1
      have rz1 := blk_free R9 1
      have r2 := blk_cell R9 2
      have rz2 := blk_free R9 2
      have r3 := blk_cell R9 3
      have rz3 := blk_free R9 3
      have r4 := blk_cell R9 4
      have rz4 := blk_free R9 4
      have r5 := blk_cell R9 5
      have rz5 := blk_free R9 5
      have r6 := blk_cell R9 6
      have rz6 := blk_free R9 6
      have r7 := blk_cell R9 7
      have rz7 := blk_free R9 7
      have r8 := blk_cell R9 8
      have rz8 := blk_free R9 8
      have r9 := blk_cell R9 9
      have rz9 := blk_free R9 9
      have r10 := blk_cell R9 10
      have rz10 := blk_free R9 10
      simp only [List.getElem?_toArray, List.getElem?_cons_succ, List.getElem?_cons_zero] at r0 r1 r2 r3 r4 r5 r6 r7 r8 r9 r10
      have rl := blk_lt R9
      have G9 := Lib.hid (gb_trans HI.out.g g9)
      unfold rdV
      clear g9 R9
      go_wp2
      refine bodyPost_ret (v := .agg #[.bool false, .int .i64 0, .int .i64 0, .int .i64 0, .int .i64 0, .int .i64 0, .int .i64 0, .int .i64 0, .int .i64 0, .int .i64 1, .int .i64 ((T.size : Nat) : Int)]) (by simp only [results, Try.results11]; go_simp) rfl ⟨rfl, ?_⟩
      exact gb11 G9.out (Nat.le_refl _) _ _ _ _ _ _ _ _ _ _ _
    have hs1 : ¬ (T.size : Int) < 22 + 16 * (i : Int) := by omega
    have hs2 : 22 + 16 * i ≤ T.size := by omega
    clear hsh
    have KV0 := fun u => rget_calls T i hs2 hbig u
    rw [hQ] at KV0
    unfold enV at KV0
    have YES := Lib.hid (fun hh => cur_yes T 0 true i hh)
    have NOO := Lib.hid (fun hh => cur_no T 0 true i hh)
    have BD := cur_bd T 0 true i
    have BE := ar_bd T Q
    have OKI := Lib.hid (show i < K → okE T 0 c i from HFK.out.yes i)
    have NOI := Lib.hid (show i = K → ¬ okE T 0 c i from fun e => by rw [e]; exact HFK.out.no (by omega))
    unfold okE at OKI NOI
    simp only [er, ew, eh, ea, eb, es, ep, hQ] at YES NOO
    rw [ew, eh] at BD
    rw [hQ] at OKI NOI
    unfold arE at YES NOO BE
    obtain ⟨w1, h9⟩ : ∃ v, eW T Q = v := ⟨_, rfl⟩
    rw [h9] at KV0 YES NOO BE
    clear h9
    obtain ⟨h1, h9⟩ : ∃ v, eH T Q = v := ⟨_, rfl⟩
    rw [h9] at KV0 YES NOO BE
    clear h9
    obtain ⟨a1, h9⟩ : ∃ v, eA T Q = v := ⟨_, rfl⟩
    rw [h9] at KV0 YES
    clear h9
    obtain ⟨b1, h9⟩ : ∃ v, eB T Q = v := ⟨_, rfl⟩
    rw [h9] at KV0 YES NOO
    clear h9
    obtain ⟨s1, h9⟩ : ∃ v, eS T Q = v := ⟨_, rfl⟩
    rw [h9] at KV0 YES OKI NOI
    have hsb : s1 < 4294967296 := by rw [← h9]; exact w4_lt _ _
    clear h9
    obtain ⟨p1, h9⟩ : ∃ v, eP T Q = v := ⟨_, rfl⟩
    rw [h9] at KV0 YES OKI NOI
    have hpb : p1 < 4294967296 := by rw [← h9]; exact w4_lt _ _
    clear h9
    have KV := Lib.hid KV0
    obtain ⟨A1, hA1⟩ : ∃ A, w1 * h1 = A := ⟨_, rfl⟩
    obtain ⟨A2, hA2⟩ : ∃ A, wx * hx = A := ⟨_, rfl⟩
    rw [hA1] at YES NOO BE
    rw [hA2] at YES NOO BD
    have ma1 : (w1 : Int) * (h1 : Int) = (A1 : Int) := by rw [← hA1, Int.natCast_mul]
    have ma2 : (wx : Int) * (hx : Int) = (A2 : Int) := by rw [← hA2, Int.natCast_mul]
    have mw1 : IntKind.i64.wrap ((A1 : Nat) : Int) = ((A1 : Nat) : Int) := IntWalk.i64_in _ (by omega)
    have mw2 : IntKind.i64.wrap ((A2 : Nat) : Int) = ((A2 : Nat) : Int) := IntWalk.i64_in _ (by omega)
    have HZ0 := Lib.hid (show i = 0 → A2 = 0 from fun e => by rw [← hA2, ← ew, e, show cW T 0 true 0 = 0 from rfl, Nat.zero_mul])
    clear KV0 hA1 hA2
    go_wp2_with fail
    refine (KV.out _).mono ?_
    rintro e w4 ⟨rfl, g4⟩
    have HI4 := Lib.hid (HI.out.gb g4)
    clear g4 HI KV
    go_upto_region 17 with fail
    have I5 := HI4.out.gb (World.grownBy_alloc w4 (.cells #[.int .i64 (w1 : Nat), .int .i64 (h1 : Nat), .int .i64 (a1 : Nat), .int .i64 (b1 : Nat), .int .i64 (s1 : Nat), .int .i64 (p1 : Nat)] 41) none)
    have E5 : (w4.alloc (.cells #[.int .i64 (w1 : Nat), .int .i64 (h1 : Nat), .int .i64 (a1 : Nat), .int .i64 (b1 : Nat), .int .i64 (s1 : Nat), .int .i64 (p1 : Nat)] 41)).heap[w4.heap.size]? = some (.cells #[.int .i64 (w1 : Nat), .int .i64 (h1 : Nat), .int .i64 (a1 : Nat), .int .i64 (b1 : Nat), .int .i64 (s1 : Nat), .int .i64 (p1 : Nat)] 41 (0, 0)) := blk_at
    have hDE := blk_lt HI4.out.d
    obtain ⟨E, hE⟩ : ∃ E, w4.heap.size = E := ⟨_, rfl⟩
    rw [hE] at E5 hDE ⊢
    generalize w4.alloc _ = w5 at I5 E5 ⊢
    clear d0 dz0 d1 dz1 d2 dz2 d3 dz3 d4 dz4 d5 dz5 d6 dz6 d7 dz7 d8 dz8 d9 dz9 d10 dz10 dl
    clear hE HI4
    have HI5 := Lib.hid I5
    have d0 := blk_cell I5.d 0
    have dz0 := blk_free I5.d 0
    have d1 := blk_cell I5.d 1
    have dz1 := blk_free I5.d 1
    have d2 := blk_cell I5.d 2
    have dz2 := blk_free I5.d 2
    have d3 := blk_cell I5.d 3
    have dz3 := blk_free I5.d 3
    have d4 := blk_cell I5.d 4
    have dz4 := blk_free I5.d 4
    have d5 := blk_cell I5.d 5
    have dz5 := blk_free I5.d 5
    have d6 := blk_cell I5.d 6
    have dz6 := blk_free I5.d 6
    have d7 := blk_cell I5.d 7
    have dz7 := blk_free I5.d 7
    have d8 := blk_cell I5.d 8
    have dz8 := blk_free I5.d 8
    have d9 := blk_cell I5.d 9
    have dz9 := blk_free I5.d 9
    have d10 := blk_cell I5.d 10
    have dz10 := blk_free I5.d 10
    simp only [rB, List.getElem?_toArray, List.getElem?_cons_succ, List.getElem?_cons_zero] at d0 d1 d2 d3 d4 d5 d6 d7 d8 d9 d10
    have dl := blk_lt I5.d
    have e0 := blk_cell E5 0
    have e1 := blk_cell E5 1
    have e2 := blk_cell E5 2
    have e3 := blk_cell E5 3
    have e4 := blk_cell E5 4
    have e5 := blk_cell E5 5
    simp only [List.getElem?_toArray, List.getElem?_cons_succ, List.getElem?_cons_zero] at e0 e1 e2 e3 e4 e5
    have HE5 := Lib.hid E5
    clear I5 E5
    have wp2 : IntKind.i64.wrap ((p1 : Int) + (s1 : Nat)) = (p1 : Int) + (s1 : Nat) := IntWalk.i64_in _ (by omega)
    by_cases hokk : en ≤ p1 ∧ p1 + s1 ≤ T.size
    · have hi1 : i < K := by
        by_cases h : i < K
        · exact h
        · exact absurd ⟨by omega, by rw [hen]; exact hokk.1, by omega⟩ (NOI.out (by omega))
      have gd1 : decide ((p1 : Int) < (en : Int)) = false := decide_eq_false (by omega)
      have gd2 : decide ((T.size : Int) < (p1 : Int) + (s1 : Nat)) = false := decide_eq_false (by omega)
      have gd3 : decide (p1 < en) = false := decide_eq_false (by omega)
      have gd4 : decide (T.size < p1 + s1) = false := decide_eq_false (by omega)
      have gd5 : ¬ p1 < en := by omega
      have gd6 : ¬ T.size < p1 + s1 := by omega
      have gd7 : ¬ (p1 : Int) < (en : Int) := by omega
      have gd8 : ¬ (T.size : Int) < (p1 : Int) + (s1 : Nat) := by omega
      have HI1 := Lib.hid hi1
      clear hokk hi1 OKI NOI
      go_upto_region 19 with fail
      go_quiet (fail)
      have HI6 := Lib.hid (HI5.out.gb (gb_drewN w5 nq none))
      have E6 := old0 (gb_drewN w5 nq none) HE5.out (blk_lt HE5.out) (by simp)
      generalize w5.drewN nq = w6 at HI6 E6 ⊢
      clear d0 dz0 d1 dz1 d2 dz2 d3 dz3 d4 dz4 d5 dz5 d6 dz6 d7 dz7 d8 dz8 d9 dz9 d10 dz10 dl
      clear e0 e1 e2 e3 e4 e5 HI5 gd1 gd2 gd3 gd4 gd5 gd6 gd7 gd8
      have d0 := blk_cell HI6.out.d 0
      have dz0 := blk_free HI6.out.d 0
      have d1 := blk_cell HI6.out.d 1
      have dz1 := blk_free HI6.out.d 1
      have d2 := blk_cell HI6.out.d 2
      have dz2 := blk_free HI6.out.d 2
      have d3 := blk_cell HI6.out.d 3
      have dz3 := blk_free HI6.out.d 3
      have d4 := blk_cell HI6.out.d 4
      have dz4 := blk_free HI6.out.d 4
      have d5 := blk_cell HI6.out.d 5
      have dz5 := blk_free HI6.out.d 5
      have d6 := blk_cell HI6.out.d 6
      have dz6 := blk_free HI6.out.d 6
      have d7 := blk_cell HI6.out.d 7
      have dz7 := blk_free HI6.out.d 7
      have d8 := blk_cell HI6.out.d 8
      have dz8 := blk_free HI6.out.d 8
      have d9 := blk_cell HI6.out.d 9
      have dz9 := blk_free HI6.out.d 9
      have d10 := blk_cell HI6.out.d 10
      have dz10 := blk_free HI6.out.d 10
      simp only [rB, List.getElem?_toArray, List.getElem?_cons_succ, List.getElem?_cons_zero] at d0 d1 d2 d3 d4 d5 d6 d7 d8 d9 d10
      have dl := blk_lt HI6.out.d
      have e0 := blk_cell E6 0
      have e1 := blk_cell E6 1
      have e2 := blk_cell E6 2
      have e3 := blk_cell E6 3
      have e4 := blk_cell E6 4
      have e5 := blk_cell E6 5
      simp only [List.getElem?_toArray, List.getElem?_cons_succ, List.getElem?_cons_zero] at e0 e1 e2 e3 e4 e5
      clear E6 HE5
      have nDE : ¬ D = E := by omega
      have nED : ¬ E = D := by omega
      have hfour : i = 0 ∨ (i ≠ 0 ∧ A2 < A1) ∨ (i ≠ 0 ∧ A1 < A2) ∨ (i ≠ 0 ∧ A1 = A2 ∧ bx < b1) ∨ (i ≠ 0 ∧ A1 = A2 ∧ ¬ bx < b1) := by omega
      rcases hfour with h0 | ⟨h0, hc1⟩ | ⟨h0, hc1⟩ | ⟨h0, hc1, hc2⟩ | ⟨h0, hc1, hc2⟩
      · have hz := HZ0.out h0
        have HY := Lib.hid (YES.out (by exact bt_gt _ _ _ _ _ (by omega)))
        clear YES NOO
        have i0a : (((i : Nat) : Int) == 0) = true := by first | (simp; done) | (simp; omega)
        have i0b : (i == 0) = true := by first | (simp; done) | (simp; omega)
        go_wp2
        go_roundg (c - (i + 1))
        case measure => omega
        case rel =>
          obtain ⟨y0, y1, y2, y3, y4, y5, y6⟩ := HY.out
          have hb := HI6.out.best 0 w1 h1 a1 b1 s1 p1
          rw [Int.natCast_zero] at hb
          have h1K := HI1.out
          subst h0
          exact ⟨1, 0, w1, h1, a1, b1, s1, p1, h1K, y0, y1, y2, y3, y4, y5, y6.trans (Nat.zero_add _), hb, rfl, rfl⟩
      · clear HZ0
        have HY := Lib.hid (YES.out (by exact bt_gt _ _ _ _ _ (by omega)))
        clear YES NOO
        have i0a : (((i : Nat) : Int) == 0) = false := by first | (simp; done) | (simp; omega)
        have i0b : (i == 0) = false := by first | (simp; done) | (simp; omega)
        have c1a : decide ((A2 : Int) < (A1 : Int)) = true := by first | (simp; done) | (simp; omega)
        have c1b : decide (A2 < A1) = true := by first | (simp; done) | (simp; omega)
        go_wp2
        go_roundg (c - (i + 1))
        case measure => omega
        case rel =>
          obtain ⟨y0, y1, y2, y3, y4, y5, y6⟩ := HY.out
          exact ⟨i + 1, i, w1, h1, a1, b1, s1, p1, by have := HI1.out; omega, y0, y1, y2, y3, y4, y5, y6.trans (Nat.zero_add _), HI6.out.best i w1 h1 a1 b1 s1 p1, rfl, by go_num⟩
      · clear HZ0
        have HY := Lib.hid (NOO.out (by exact bt_lt _ _ _ _ _ (by omega)))
        clear YES NOO
        have i0a : (((i : Nat) : Int) == 0) = false := by first | (simp; done) | (simp; omega)
        have i0b : (i == 0) = false := by first | (simp; done) | (simp; omega)
        have c1a : decide ((A2 : Int) < (A1 : Int)) = false := by first | (simp; done) | (simp; omega)
        have c1b : decide (A2 < A1) = false := by first | (simp; done) | (simp; omega)
        have c2a : ((A1 : Int) == (A2 : Int)) = false := by first | (simp; done) | (simp; omega)
        have c2b : (A1 == A2) = false := by first | (simp; done) | (simp; omega)
        go_wp2
        go_roundg (c - (i + 1))
        case measure => omega
        case rel =>
          obtain ⟨-, y0, y1, y2, y3, y4, y5, y6⟩ := HY.out
          exact ⟨i + 1, r, wx, hx, ax, bx, sx, px, by have := HI1.out; omega, y0, y1, y2, y3, y4, y5, y6, HI6.out, rfl, by go_num⟩
      · clear HZ0
        have HY := Lib.hid (NOO.out (by rw [hc1]; exact bt_cur _ _ _))
        clear YES NOO
        have i0a : (((i : Nat) : Int) == 0) = false := by first | (simp; done) | (simp; omega)
        have i0b : (i == 0) = false := by first | (simp; done) | (simp; omega)
        subst hc1
        have c1a : decide ((A1 : Int) < (A1 : Int)) = false := by first | (simp; done) | (simp; omega)
        have c1b : decide (A1 < A1) = false := by first | (simp; done) | (simp; omega)
        go_wp2
        go_roundg (c - (i + 1))
        case measure => omega
        case rel =>
          obtain ⟨-, y0, y1, y2, y3, y4, y5, y6⟩ := HY.out
          exact ⟨i + 1, r, wx, hx, ax, bx, sx, px, by have := HI1.out; omega, y0, y1, y2, y3, y4, y5, y6, HI6.out, rfl, by go_num⟩
      · clear HZ0
        have HY := Lib.hid (NOO.out (by rw [hc1]; exact bt_cur _ _ _))
        clear YES NOO
        have i0a : (((i : Nat) : Int) == 0) = false := by first | (simp; done) | (simp; omega)
        have i0b : (i == 0) = false := by first | (simp; done) | (simp; omega)
        subst hc1
        have c1a : decide ((A1 : Int) < (A1 : Int)) = false := by first | (simp; done) | (simp; omega)
        have c1b : decide (A1 < A1) = false := by first | (simp; done) | (simp; omega)
        go_wp2
        go_roundg (c - (i + 1))
        case measure => omega
        case rel =>
          obtain ⟨-, y0, y1, y2, y3, y4, y5, y6⟩ := HY.out
          exact ⟨i + 1, r, wx, hx, ax, bx, sx, px, by have := HI1.out; omega, y0, y1, y2, y3, y4, y5, y6, HI6.out, rfl, by go_num⟩
    · have hKi : K = i := by
        by_cases h : i < K
        · have h2 := OKI.out h
          exact absurd ⟨by omega, by omega⟩ hokk
        · omega
      obtain ⟨h9, _⟩ | ⟨_, h9, _⟩ | ⟨-, -, hRV⟩ := HEND.out
      · omega
      · exfalso
        rw [hKi, hQ] at h9
        omega
      rw [hKi, hQ] at hRV
      rw [show ((Q + 12 : Nat) : Int) = 6 + 16 * (i : Int) + 12 from by omega] at hRV
      have wq0 : IntKind.i64.wrap (6 + 16 * (i : Int)) = 6 + 16 * (i : Int) := IntWalk.i64_in _ (by omega)
      have wq2 : IntKind.i64.wrap (6 + 16 * (i : Int) + 12) = 6 + 16 * (i : Int) + 12 := IntWalk.i64_in _ (by omega)
      subst hRV
      clear hKi HEND HFK OKI NOI YES NOO
      by_cases hp : p1 < en
      · have gd1 : decide ((p1 : Int) < (en : Int)) = true := decide_eq_true (by omega)
        have gd3 : decide (p1 < en) = true := decide_eq_true hp
        have gd7 : (p1 : Int) < (en : Int) := by omega
        clear hokk
        have R5 := HI5.out.r
        go_wp2_with fail
        refine (rbad_calls 2 (6 + 16 * (i : Int) + 12) _).mono ?_
        rintro e w9 ⟨rfl, g9⟩
        have R9 := old0 g9 R5 (blk_lt R5) (by simp)
        have r0 := blk_cell R9 0
        have rz0 := blk_free R9 0
        have r1 := blk_cell R9 1
        have rz1 := blk_free R9 1
        have r2 := blk_cell R9 2
        have rz2 := blk_free R9 2
        have r3 := blk_cell R9 3
        have rz3 := blk_free R9 3
        have r4 := blk_cell R9 4
        have rz4 := blk_free R9 4
        have r5 := blk_cell R9 5
        have rz5 := blk_free R9 5
        have r6 := blk_cell R9 6
        have rz6 := blk_free R9 6
        have r7 := blk_cell R9 7
        have rz7 := blk_free R9 7
        have r8 := blk_cell R9 8
        have rz8 := blk_free R9 8
        have r9 := blk_cell R9 9
        have rz9 := blk_free R9 9
        have r10 := blk_cell R9 10
        have rz10 := blk_free R9 10
        simp only [List.getElem?_toArray, List.getElem?_cons_succ, List.getElem?_cons_zero] at r0 r1 r2 r3 r4 r5 r6 r7 r8 r9 r10
        have rl := blk_lt R9
        have G9 := Lib.hid (gb_trans HI5.out.g g9)
        unfold rdV
        clear g9 R9
        go_wp2
        refine bodyPost_ret (v := .agg #[.bool false, .int .i64 0, .int .i64 0, .int .i64 0, .int .i64 0, .int .i64 0, .int .i64 0, .int .i64 0, .int .i64 0, .int .i64 2, .int .i64 (6 + 16 * (i : Int) + 12)]) (by simp only [results, Try.results11]; go_simp) rfl ⟨rfl, ?_⟩
        exact gb11 G9.out (Nat.le_refl _) _ _ _ _ _ _ _ _ _ _ _
      · have gd1 : decide ((p1 : Int) < (en : Int)) = false := decide_eq_false (by omega)
        have gd2 : decide ((T.size : Int) < (p1 : Int) + (s1 : Nat)) = true := decide_eq_true (by omega)
        have gd3 : decide (p1 < en) = false := decide_eq_false (by omega)
        have gd4 : decide (T.size < p1 + s1) = true := decide_eq_true (by omega)
        have gd6 : T.size < p1 + s1 := by omega
        have gd7 : ¬ (p1 : Int) < (en : Int) := by omega
        have gd8 : (T.size : Int) < (p1 : Int) + (s1 : Nat) := by omega
        clear hokk
        have R5 := HI5.out.r
        go_wp2_with fail
        refine (rbad_calls 2 (6 + 16 * (i : Int) + 12) _).mono ?_
        rintro e w9 ⟨rfl, g9⟩
        have R9 := old0 g9 R5 (blk_lt R5) (by simp)
        have r0 := blk_cell R9 0
        have rz0 := blk_free R9 0
        have r1 := blk_cell R9 1
        have rz1 := blk_free R9 1
        have r2 := blk_cell R9 2
        have rz2 := blk_free R9 2
        have r3 := blk_cell R9 3
        have rz3 := blk_free R9 3
        have r4 := blk_cell R9 4
        have rz4 := blk_free R9 4
        have r5 := blk_cell R9 5
        have rz5 := blk_free R9 5
        have r6 := blk_cell R9 6
        have rz6 := blk_free R9 6
        have r7 := blk_cell R9 7
        have rz7 := blk_free R9 7
        have r8 := blk_cell R9 8
        have rz8 := blk_free R9 8
        have r9 := blk_cell R9 9
        have rz9 := blk_free R9 9
        have r10 := blk_cell R9 10
        have rz10 := blk_free R9 10
        simp only [List.getElem?_toArray, List.getElem?_cons_succ, List.getElem?_cons_zero] at r0 r1 r2 r3 r4 r5 r6 r7 r8 r9 r10
        have rl := blk_lt R9
        have G9 := Lib.hid (gb_trans HI5.out.g g9)
        unfold rdV
        clear g9 R9
        go_wp2
        refine bodyPost_ret (v := .agg #[.bool false, .int .i64 0, .int .i64 0, .int .i64 0, .int .i64 0, .int .i64 0, .int .i64 0, .int .i64 0, .int .i64 0, .int .i64 2, .int .i64 (6 + 16 * (i : Int) + 12)]) (by simp only [results, Try.results11]; go_simp) rfl ⟨rfl, ?_⟩
        exact gb11 G9.out (Nat.le_refl _) _ _ _ _ _ _ _ _ _ _ _

end Go.Proofs.Ytajbpcaghmcplaa.Id
