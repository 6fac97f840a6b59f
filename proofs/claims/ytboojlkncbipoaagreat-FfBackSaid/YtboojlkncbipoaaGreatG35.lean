/- Texts of one kind, one behind the other: Fw2. -/
import Derived.Deep.CutRange
import Derived.Deep.RegionHeld3
import Derived.Test.YtboojlkncbipoaaGreatG34
/- Layer 27: the document's Write. -/
namespace Go.Proofs.YtboojlkncbipoaaGreat.Fw
open Go.ChangeShapes Go.WideShapes Go.ChangeAt Go.RowKit
open Go.Proofs.YtboojlkncbipoaaGreat.Le Go.Proofs.YtboojlkncbipoaaGreat.Ra Go.Proofs.YtboojlkncbipoaaGreat.Bd Go.Proofs.YtboojlkncbipoaaGreat.Am
set_option linter.unusedVariables false

theorem mr_ne {B m n : Nat} {v : Value} {xs : List Value} {w : World} {C : Array Value} {T : TypeId} {fz : Nat × Nat} (h : Mr B v n xs w) (hm : w.heap[m]? = some (.cells C T fz)) (hT : T ≠ 5) : v.ownBlock ≠ some m := by
  obtain ⟨_, g, cap, cur, fz, rfl, _, hg, _⟩ := h
  intro e
  simp [Value.ownBlock] at e
  subst e
  rw [hm] at hg
  simp at hg
  exact hT hg.2.1
def lit : List Value := [.int .u8 102, .int .u8 97, .int .u8 114, .int .u8 98, .int .u8 102, .int .u8 101, .int .u8 108, .int .u8 100]
theorem lit_eq (X Y : Nat) : lit = Lib.byteCells (hdL ffS X Y 0) := by simp [lit, hdL, ffS, Lib.byteCells]
theorem div_of {x : Nat} (hx : x ≤ 100000) : wrap64 ((x : Int) / 16777216) = (x : Int) / 16777216 ∧ wrap64 ((x : Int) / 65536) = (x : Int) / 65536 ∧ wrap64 ((x : Int) / 256) = (x : Int) / 256 ∧ ((x : Int) / 65536).tmod 256 = (x : Int) / 65536 % 256 ∧ ((x : Int) / 256).tmod 256 = (x : Int) / 256 % 256 ∧ (x : Int).tmod 256 = (x : Int) % 256 ∧
    (x : Int) / 65536 % 256 % 256 = (x : Int) / 65536 % 256 ∧ (x : Int) / 256 % 256 % 256 = (x : Int) / 256 % 256 :=
  ⟨IntWalk.wrap64_in _ (by omega), IntWalk.wrap64_in _ (by omega), IntWalk.wrap64_in _ (by omega), Int.tmod_eq_emod_of_nonneg (by omega), Int.tmod_eq_emod_of_nonneg (by omega), Int.tmod_eq_emod_of_nonneg (by omega), by omega, by omega⟩
/-- Two bytes are put behind a row, in a region that draws its order. -/
theorem two_app {B : Nat} {v : Value} {n N : Nat} {l : List UInt8} {w : World} {ops : Array Oper} {o : Oper} {a : Act} {K : Act → World → Prop} {Q : Exit → Act → World → Prop} {E : Prop} {s x : Operand} (k : UInt8) (h : Mr B v n (Lib.byteCells l) w) (hn : n ≤ 10000) (hN : n + 2 = N)
    (hB : B ≤ w.heap.size) (hgd : o.guard = none) (ho : o.op = .call { callee := .builtin .append, args := #[s, x], argTypes := #[25, 25] }) (hs : a.eval s = v) (hx : a.eval x = .slice (some ⟨w.heap.size, 0, none⟩) 2 2)
    (hh : ∀ v' w', Mr B v' N (Lib.byteCells (l ++ [k] ++ [k])) w' → w.grownBy w' v.ownBlock → K (a.put o.dst v') w') :
    if Region.wanted o (yielded ops a.tmps) = true then Oper.wp Tryz.prog o a (w.alloc (.cells #[.int .u8 (k.toNat : Int), .int .u8 (k.toNat : Int)] 5)) K Q else E := by
  obtain ⟨i0, hi0, hz0, hz1, hz2⟩ := infoB
  have hw : Region.wanted o (yielded ops a.tmps) = true := by simp [Region.wanted, hgd]
  rw [if_pos hw]
  have h1 := h.alloc (.cells #[.int .u8 (k.toNat : Int), .int .u8 (k.toNat : Int)] 5)
  obtain ⟨v', w', hr, h2, h3⟩ := Mr.append (P := Tryz.prog) (w.alloc (.cells #[.int .u8 (k.toNat : Int), .int .u8 (k.toNat : Int)] 5)) B o.type i0 undB hi0 hz0 hz1 hz2 v n (Lib.byteCells l) h1 ⟨w.heap.size, 0, none⟩ 2 2 [.int .u8 (k.toNat : Int), .int .u8 (k.toNat : Int)] rfl
    (World.news_of_block (cs := #[.int .u8 (k.toNat : Int), .int .u8 (k.toNat : Int)]) (t := 5) (fr := (0, 0)) (heap_alloc_new w _)) (by intro u hu; simp at hu; subst hu; rfl) (by omega) (Nat.le_trans hB (World.grownBy_alloc w _ none).size)
  unfold Oper.wp execOp
  simp only [ho, resolve, invoke, builtin, Sem.run_bind, Sem.run_pure, Result.andThen_ok, List.map_toArray, List.map_cons, List.map_nil, hs, hx, hr]
  refine hh v' w' ?_ (gb_trans (World.grownBy_alloc w _ _) h3)
  rw [List.append_assoc, Lib.byteCells_append, ← hN]
  exact h2

set_option maxRecDepth 100000 in
set_option maxHeartbeats 1000000 in
theorem rwrite_calls (X Y : Nat) (a : Option Addr) (c : Nat) (S : ByteArray) (W : World) (hB : Bx a S W) (hs : S.size ≤ 2000) (hX : X ≤ 100000) (hY : Y ≤ 100000) (h1 : 1 ≤ S.size) :
    Calls Tryz.prog 36 #[.agg #[.int .i64 X, .int .i64 Y, .slice a S.size c]] W fun e w' => e = .returned (.string (ffT X Y S)) ∧ W.grownBy w' none := by
  obtain ⟨n, hn⟩ : ∃ n, S.size = n := ⟨_, rfl⟩
  rw [hn] at hs h1 ⊢
  have HN := Lib.hid hn
  have HS := Lib.hid hs
  have HX := Lib.hid hX
  have HY := Lib.hid hY
  obtain ⟨bk, off, rfl, hC⟩ : ∃ b off, a = some ⟨b, off, none⟩ ∧ Lib.Bytes W b off S := hB.resolve_left (by omega)
  have HC := Lib.hid hC
  clear hs h1 hn hC hX hY hB
  have HI := Lib.hid (blk_at (w := W) (o := .cells #[.int .i64 (X : Int), .int .i64 (Y : Int), .slice (some ⟨bk, off, none⟩) n c] 27))
  have HG := Lib.hid (World.grownBy_alloc W (.cells #[.int .i64 (X : Int), .int .i64 (Y : Int), .slice (some ⟨bk, off, none⟩) n c] 27) none)
  go_enter Tryz.func36, Tryz.ntmps36
  go_upto_region 1 with fail
  generalize W.alloc (.cells #[.int .i64 (X : Int), .int .i64 (Y : Int), .slice (some ⟨bk, off, none⟩) n c] 27) = w0 at HI HG ⊢
  obtain ⟨i0, hi0⟩ : ∃ i, W.heap.size = i := ⟨_, rfl⟩
  rw [hi0] at HI ⊢
  clear hi0
  have HM := Lib.hid (Mr.lit w0 lit w0.heap.size 8 (Nat.le_refl _) rfl (by decide))
  have cvl : (convert 25 25 (.slice (some ⟨w0.heap.size, 0, none⟩) 8 8)).run Tryz.prog (w0.alloc (.cells #[.int .u8 102, .int .u8 97, .int .u8 114, .int .u8 98, .int .u8 102, .int .u8 101, .int .u8 108, .int .u8 100] 5)) = .ok (.slice (some ⟨w0.heap.size, 0, none⟩) 8 8) (w0.alloc (.cells #[.int .u8 102, .int .u8 97, .int .u8 114, .int .u8 98, .int .u8 102, .int .u8 101, .int .u8 108, .int .u8 100] 5 (8, 9))) :=
    Lib.run_convert_bytes_const (P := Tryz.prog) w0 25 5 _ 8 8 (by kernel_rfl) (by kernel_rfl)
  have G1 := World.grownBy_alloc w0 (.cells #[.int .u8 102, .int .u8 97, .int .u8 114, .int .u8 98, .int .u8 102, .int .u8 101, .int .u8 108, .int .u8 100] 5 (8, 9)) none
  have M1 : Mr w0.heap.size (.slice (some ⟨w0.heap.size, 0, none⟩) 8 8) 8 (Lib.byteCells (hdL ffS X Y 0)) (w0.alloc (.cells #[.int .u8 102, .int .u8 97, .int .u8 114, .int .u8 98, .int .u8 102, .int .u8 101, .int .u8 108, .int .u8 100] 5 (8, 9))) := by rw [← lit_eq]; exact HM.out
  clear HM
  go_upto_region 2 with fail
  clear cvl
  obtain ⟨r0, hr0⟩ : ∃ r, w0.heap.size = r := ⟨_, rfl⟩
  rw [hr0] at M1 ⊢
  have HR0 := Lib.hid hr0
  generalize w0.alloc (.cells #[.int .u8 102, .int .u8 97, .int .u8 114, .int .u8 98, .int .u8 102, .int .u8 101, .int .u8 108, .int .u8 100] 5 (8, 9)) = w1 at M1 G1 ⊢
  have HM1 := Lib.hid M1
  have HG1 := Lib.hid G1
  have HI1 := Lib.hid ((G1.block i0 (blk_lt HI.out) (by simp)).trans HI.out)
  clear M1 G1 hr0
  have x0 : w1.cell? ⟨i0, 0, none⟩ = some (.int .i64 X) := blk_cell HI1.out 0
  have x1 : w1.cell? ⟨i0, 1, none⟩ = some (.int .i64 Y) := blk_cell HI1.out 1
  go_wp2_with fail
  obtain ⟨m0, hm0⟩ : ∃ m, w1.heap.size = m := ⟨_, rfl⟩
  have HA2 := Lib.hid (show (w1.alloc (.cells #[.int .i64 (X : Int), .int .i64 (Y : Int)] 3)).heap[m0]? = some (.cells #[.int .i64 (X : Int), .int .i64 (Y : Int)] 3 (0, 0)) by rw [← hm0]; exact blk_at)
  have HM2 := Lib.hid (HM1.out.alloc (.cells #[.int .i64 (X : Int), .int .i64 (Y : Int)] 3))
  have HG2 := Lib.hid (gb_trans HG1.out (World.grownBy_alloc w1 (.cells #[.int .i64 (X : Int), .int .i64 (Y : Int)] 3) none))
  rw [hm0]
  generalize w1.alloc (.cells #[.int .i64 (X : Int), .int .i64 (Y : Int)] 3) = w2 at HA2 HM2 HG2 ⊢
  clear HM1 HG1 HI1 x0 x1 hm0
  go_loopg [3, 15] 3 (fun q bv iv wr => ∃ k : Nat, k ≤ 2 ∧ q = 3 - k ∧ iv = .int .i64 (k : Int) ∧ Mr r0 bv (8 + 4 * k) (Lib.byteCells (hdL ffS X Y k)) wr ∧ w0.grownBy wr none ∧ wr.heap[m0]? = some (.cells #[.int .i64 (X : Int), .int .i64 (Y : Int)] 3 (0, 0)))
  case atStart => exact ⟨0, by omega, rfl, rfl, HM2.out, HG2.out, HA2.out⟩
  case round =>
    obtain ⟨k, hk, rfl, rfl, M, G, A⟩ := hrel
    have HM := Lib.hid M
    have HGr := Lib.hid G
    have HA := Lib.hid A
    clear M G A HM2 HG2 HA2
    obtain ⟨g3, c3, rfl⟩ : ∃ g c, u3 = .slice (some ⟨g, 0, none⟩) (8 + 4 * k) c := by obtain ⟨_, g, cap, _, _, h, _⟩ := HM.out; exact ⟨_, _, h⟩
    have HL := Lib.hid HM.out.lt
    have hk3 : k = 0 ∨ k = 1 ∨ k = 2 := by omega
    have a0 : wr.cell? ⟨m0, 0, none⟩ = some (.int .i64 X) := blk_cell HA.out 0
    have a1 : wr.cell? ⟨m0, 1, none⟩ = some (.int .i64 Y) := blk_cell HA.out 1
    rcases hk3 with rfl | rfl | rfl
    · have M1 := Lib.hid (show Mr r0 (.slice (some ⟨g3, 0, none⟩) 8 c3) 8 (Lib.byteCells (hdL ffS X Y 0)) wr from HM.out)
      clear HM
      obtain ⟨p1, p2, p3, p4, p5, p6, p7, p8⟩ := div_of HX.out
      clear a1
      go_wp2_with (at_builtin; refine four_app (N := 12) X M1.out (by decide) rfl (by have := HGr.out.size; rw [HR0.out] at this; exact this) rfl rfl rfl rfl ?_; intro v' w3 M3 G3; have HM3 := Lib.hid M3; have HG3 := Lib.hid G3; clear M3 G3)
      go_wp2
      go_roundg (3 - 1)
      case measure => decide
      case rel => exact ⟨1, by decide, rfl, rfl, HM3.out, gb_own HGr.out (by rw [HR0.out]; exact (HL.out g3 rfl).1) HG3.out, (HG3.out.block m0 (blk_lt HA.out) (fun e => mr_ne M1.out HA.out (by decide) e.symm)).trans HA.out⟩
    · have M1 := Lib.hid (show Mr r0 (.slice (some ⟨g3, 0, none⟩) 12 c3) 12 (Lib.byteCells (hdL ffS X Y 1)) wr from HM.out)
      clear HM
      obtain ⟨p1, p2, p3, p4, p5, p6, p7, p8⟩ := div_of HY.out
      clear a0
      go_wp2_with (at_builtin; refine four_app (N := 16) Y M1.out (by decide) rfl (by have := HGr.out.size; rw [HR0.out] at this; exact this) rfl rfl rfl rfl ?_; intro v' w3 M3 G3; have HM3 := Lib.hid M3; have HG3 := Lib.hid G3; clear M3 G3)
      go_wp2
      go_roundg (3 - 2)
      case measure => decide
      case rel => exact ⟨2, by decide, rfl, rfl, HM3.out, gb_own HGr.out (by rw [HR0.out]; exact (HL.out g3 rfl).1) HG3.out, (HG3.out.block m0 (blk_lt HA.out) (fun e => mr_ne M1.out HA.out (by decide) e.symm)).trans HA.out⟩
    · have M1 := Lib.hid (show Mr r0 (.slice (some ⟨g3, 0, none⟩) 16 c3) 16 (Lib.byteCells (hdL ffS X Y 2)) wr from HM.out)
      clear HM a0 a1 HA HL
      have hLen := ffL_len X Y S
      go_wp2_with fail
      go_loopg [3, 6] (n + 1) (fun q bv iv wr => ∃ k : Nat, k ≤ n ∧ q = n + 1 - k ∧ iv = .int .i64 (k : Int) ∧ Mr r0 bv (16 + 2 * k) (Lib.byteCells (ffL X Y S k)) wr ∧ w0.grownBy wr none)
      case atStart => exact ⟨0, Nat.zero_le _, rfl, rfl, by
        have e : ffL X Y S 0 = hdL ffS X Y 2 := by simp [ffL, dup]
        rw [e]; exact M1.out, HGr.out⟩
      case round =>
        obtain ⟨k, hk, rfl, rfl, M, G⟩ := hrel
        have HM := Lib.hid M
        have HG3 := Lib.hid G
        clear M G M1 HGr
        have HI3 := Lib.hid ((HG3.out.block i0 (blk_lt HI.out) (by simp)).trans HI.out)
        obtain ⟨g4, c4, rfl⟩ : ∃ g c, u3 = .slice (some ⟨g, 0, none⟩) (16 + 2 * k) c := by obtain ⟨_, g, cap, _, _, h, _⟩ := HM.out; exact ⟨_, _, h⟩
        have HL := Lib.hid HM.out.lt
        have x2 : wr.cell? ⟨i0, 2, none⟩ = some (.slice (some ⟨bk, off, none⟩) n c) := blk_cell HI3.out 2
        by_cases hlt : k < n
        · have hkS : k < S.size := by rw [HN.out]; exact hlt
          have HPX := HC.out k hkS
          have HNX := Lib.hid (ffL_next X Y S k hkS)
          obtain ⟨cv, hcv⟩ : ∃ cv, S[k] = cv := ⟨_, rfl⟩
          rw [hcv] at HPX HNX
          have hcell := (gb_trans HG.out HG3.out).cell HPX (by simp)
          have HPX := Lib.hid HPX
          have HW := Lib.hid (fun (w2 : World) (G2 : wr.drew.grownBy w2 (some g4)) => (show w0.grownBy w2 none from gb_own (gb_trans HG3.out (gb_drew wr none)) (by rw [HR0.out]; exact (HL.out g4 rfl).1) G2))
          have d1 : decide ((k : Int) < (n : Int)) = true := decide_eq_true (by omega)
          have hw1 : IntKind.i64.wrap ((k : Int) + 1) = (k : Int) + 1 := IntWalk.i64_in _ (by have := HS.out; omega)
          have HN2 := Lib.hid (show 16 + 2 * k ≤ 10000 by have := HS.out; omega)
          clear hcv hkS hLen
          go_upto_region 10 with fail
          go_region_held3 (fun w' => w'.cell? ⟨i0, 2, none⟩ = some (.slice (some ⟨bk, off, none⟩) n c) ∧ w'.cell? ⟨bk, off + k, none⟩ = some (.int .u8 (cv.toNat : Int))) (go_keep) (first
            | (refine two_app (N := 16 + 2 * (k + 1)) cv (HM.out.kept (gb_drew _ none) (by simp [Value.ownBlock])) HN2.out (by omega) (Nat.le_trans (by have := HG3.out.size; rw [HR0.out] at this; exact this) (gb_drew _ none).size) rfl rfl rfl rfl ?_; intro v2 w2 M2 G2; have HM2 := Lib.hid M2; have HG2 := Lib.hid (HW.out w2 G2); have y1 := HG2.out.cell (blk_cell HI.out 2) (by simp); have y2 := (gb_trans HG.out HG2.out).cell HPX.out (by simp); clear M2 G2))
          all_goals
            go_wp2_with fail
            go_roundg (n + 1 - (k + 1))
            case measure => omega
            case rel => exact ⟨k + 1, by omega, rfl, by go_num, by rw [HNX.out]; exact HM2.out, HG2.out⟩
        · obtain rfl : k = n := by omega
          have hle : k ≤ S.size := by rw [HN.out]; exact Nat.le_refl _
          have cv : (convert 25 9 (.slice (some ⟨g4, 0, none⟩) (16 + 2 * k) c4)).run Tryz.prog wr = .ok (.string (ffT X Y S)) wr := by
            have hz : (ffT X Y S).size = 16 + 2 * k := by
              rw [Lib.size_eq]
              have := ffL_len X Y S S.size (Nat.le_refl _)
              rw [HN.out] at this
              unfold ffT
              rw [HN.out]
              exact this
            have hcl : ∀ i (hi : i < (ffT X Y S).size), wr.cell? ⟨g4, 0 + i, none⟩ = some (.int .u8 ((ffT X Y S)[i].toNat : Int)) := by
              intro i hi
              have h := HM.out.cells i (.int .u8 ((ffT X Y S)[i]).toNat) (by
                unfold Lib.byteCells
                rw [List.getElem?_map]
                have h3 : ffL X Y S k = (ffT X Y S).data.toList := by unfold ffT; rw [HN.out]
                have h2 : i < (ffT X Y S).data.toList.length := by rw [← Lib.size_eq]; exact hi
                rw [h3, List.getElem?_eq_getElem h2]
                rfl)
              have hadd : (⟨g4, 0, none⟩ : Addr).add i = ⟨g4, 0 + i, none⟩ := by unfold Addr.add; split <;> simp_all
              rw [hadd] at h
              exact h
            have := Lib.run_convert_whole (P := Tryz.prog) wr 25 5 9 (by kernel_rfl) (by kernel_rfl) (by kernel_rfl) g4 0 (ffT X Y S) hcl c4
            rw [hz] at this
            exact this
          have d1 : decide ((k : Int) < (k : Int)) = false := decide_eq_false (by omega)
          clear hle hLen
          go_wp2
          go_ret
          exact ⟨rfl, gb_trans HG.out HG3.out⟩

end Go.Proofs.YtboojlkncbipoaaGreat.Fw
