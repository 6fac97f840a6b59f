/- Texts of one kind, one behind the other: Pxt3, Fil0, Fil1, Fil2, Fil3, Fil4, Fil5, Fil6. -/
import Derived.BigRegion
import Derived.Deep.LoopGhost
import Derived.Test.YtcfdippcobkbaaaGreatG15
import Derived.Test.YtcfdippcobkbaaaGreatG18
/- Text's pixels: of three numbers. -/
namespace Go.Proofs.YtcfdippcobkbaaaGreat.Px
open Go.ChangeShapes Go.WideShapes Go.ChangeAt Go.RowKit
open Go.Proofs.YtcfdippcobkbaaaGreat.Le Go.Proofs.YtcfdippcobkbaaaGreat.Tk Go.Proofs.YtcfdippcobkbaaaGreat.Sc Go.Proofs.YtcfdippcobkbaaaGreat.Sr Go.Proofs.YtcfdippcobkbaaaGreat.Ph
set_option linter.unusedVariables false

/-- An array of three samples, of which some are there. -/
def AV (vs : List Nat) : Array Value := #[.int .u8 ((vs.getD 0 0 : Nat) : Int), .int .u8 ((vs.getD 1 0 : Nat) : Int), .int .u8 ((vs.getD 2 0 : Nat) : Int)]
theorem av_set (v : Nat) : ∀ vs : List Nat, vs.length < 3 → (AV vs).setIfInBounds vs.length (.int .u8 (v : Int)) = AV (vs ++ [v])
  | [], _ => rfl
  | [_], _ => rfl
  | [_, _], _ => rfl
  | _ :: _ :: _ :: _, h => absurd h (by simp)
theorem av_at (vs : List Nat) (i : Nat) (h : i < 3) : ∃ y : Nat, (AV vs)[i]? = some (.int .u8 (y : Int)) := by
  obtain rfl | rfl | rfl : i = 0 ∨ i = 1 ∨ i = 2 := by omega
  · exact ⟨_, rfl⟩
  · exact ⟨_, rfl⟩
  · exact ⟨_, rfl⟩
def Ab (k : Nat) (vs : List Nat) (w : World) : Prop := w.heap[k]? = some (.cells (AV vs) 179 (0, 0))
theorem Ab.turned {k : Nat} {vs : List Nat} {w w' : World} {S : List Nat} (h : Ab k vs w) (t : Tn w w' S) (h1 : k ∉ S) : Ab k vs w' := (t.block k (blk_lt h) h1).trans h
theorem Ab.set {k v : Nat} {vs : List Nat} {w : World} (h : Ab k vs w) (hl : vs.length < 3) : Ab k (vs ++ [v]) (w.setCell ⟨k, vs.length, none⟩ (.int .u8 (v : Int))) := by
  have := blk_set h vs.length (.int .u8 (v : Int))
  rw [av_set v vs hl] at this
  exact this
theorem Ab.oth {k c o : Nat} {v : Value} {vs : List Nat} {w : World} (h : Ab k vs w) (h1 : k ≠ c) : Ab k vs (w.setCell ⟨c, o, none⟩ v) := blk_other h h1
theorem Ab.al {k : Nat} {vs : List Nat} {w : World} (h : Ab k vs w) (o : Obj) : Ab k vs (w.alloc o) := blk_al h o

theorem sms_succ (s : ByteArray) (m a i : Nat) : sms s m a (i + 1) = (sms s m a i).step (smpV s m (sms s m a i).a) := rfl
theorem sms_n (s : ByteArray) (m a : Nat) : ∀ i j, i ≤ j → (sms s m a i).n ≤ (sms s m a j).n := by
  intro i j hij
  induction j with
  | zero =>
    obtain rfl : i = 0 := by omega
    exact Nat.le_refl _
  | succ j ih =>
    by_cases h : i = j + 1
    · subst h
      exact Nat.le_refl _
    · refine Nat.le_trans (ih (by omega)) ?_
      rw [sms_succ]
      unfold SS.step
      split
      · exact Nat.le_refl _
      · split
        · exact Nat.le_add_right _ _
        · exact Nat.le_add_right _ _
theorem px3_is (s : ByteArray) (m a : Nat) : pxV s 3 m a = ⟨(sms s m a 3).f, (sms s m a 3).p, (sms s m a 3).a, (sms s m a 3).vs.getD 0 0, (sms s m a 3).vs.getD 1 0, (sms s m a 3).vs.getD 2 0, (sms s m a 3).n⟩ := rfl
/-- A sample that ends badly ends its pixel so. -/
theorem sms_bad {s : ByteArray} {x : St} {m a i : Nat} {z : SS} {o : SP} {k g b : Int} {q : Nat} {y : St} (hz : sms s m a i = z) (ho : smpV s m z.a = o) (h0 : z.f = 0) (hi : i < 3) (h : BD s (stp x z.n) o.f o.p o.n k g b q y) :
    BD s x (pxV s 3 m a).f (pxV s 3 m a).p (pxV s 3 m a).n k g b q y := by
  have e1 : sms s m a (i + 1) = z.step o := by rw [sms_succ, hz, ho]
  refine h.lift (fun hf => ?_) ?_
  · rw [ss_fault h0 hf] at e1
    have e2 := sms_stay s m a (i := i + 1) (by rw [e1]; exact hf) 3 (by omega)
    rw [px3_is, e2, e1]
    exact ⟨rfl, rfl, rfl⟩
  · have h2 := sms_n s m a (i + 1) 3 (by omega)
    rw [e1] at h2
    show _ ≤ (sms s m a 3).n
    by_cases hf : o.f = 0
    · rw [ss_yes h0 hf] at h2
      exact h2
    · rw [ss_fault h0 hf] at h2
      exact h2

theorem SY.st {W w : World} {c l : Nat} {m : Int} {b k i : Nat} {v : Value} (h : SY W c l m b w) (hk : b + 1 + 1 < k) : SY W c l m b (w.setCell ⟨k, i, none⟩ v) :=
  ⟨⟨blk_other h.sx.bx (by omega), Tn.own1 h.sx.tn (by have := h.sx.wb; omega), h.sx.wb, h.sx.cb, h.sx.lb⟩, blk_other h.co (by omega), blk_other h.fl (by omega)⟩

set_option maxRecDepth 100000 in
set_option maxHeartbeats 4000000 in
theorem tcolor_calls (c l : Nat) (s : ByteArray) (p m : Nat) (x : St) (ix : Int) (W : World) (h : Rd c l s p x W) (hr : x.r = 0) (hm : 1 ≤ m ∧ m ≤ 65535) :
    Calls Tryz.prog 94 #[.agg #[.pointer (some ⟨c, 0, none⟩), .int .i64 m], .int .i64 ix] W (NP W [c, l] c l s x (pxV s 3 m p) (fun _ => True)) := by
  have Y00 := SY.new W c l m h.clt h.llt
  have Y0 := Y00.al (.cells #[.int .u8 0, .int .u8 0, .int .u8 0] 179)
  have V0 : Ab (W.heap.size + 1 + 1 + 1) [] ((((W.alloc (bxO c m)).alloc (cO 0 0 0 0)).alloc (fO 0 0 0)).alloc (.cells #[.int .u8 0, .int .u8 0, .int .u8 0] 179)) := by
    rw [← size_alloc W (bxO c m), ← size_alloc (W.alloc (bxO c m)) (cO 0 0 0 0), ← size_alloc ((W.alloc (bxO c m)).alloc (cO 0 0 0 0)) (fO 0 0 0)]
    exact blk_at
  have g0 := gb_trans (gb_trans (gb_trans (World.grownBy_alloc W (bxO c m) none) (World.grownBy_alloc _ (cO 0 0 0 0) none)) (World.grownBy_alloc _ (fO 0 0 0) none)) (World.grownBy_alloc _ (.cells #[.int .u8 0, .int .u8 0, .int .u8 0] 179) none)
  have R0 := h.grown g0
  have hps := h.so.pt
  unfold bxO cO fO at Y0 V0 R0
  have HY0 := Lib.hid Y0
  have HV0 := Lib.hid V0
  have HR0 := Lib.hid R0
  have hcw := h.clt
  have hlw := h.llt
  have HKC : W.heap.size + 1 ≠ c := by omega
  have HKL : W.heap.size + 1 ≠ l := by omega
  have HJC : W.heap.size + 1 + 1 ≠ c := by omega
  have HJL : W.heap.size + 1 + 1 ≠ l := by omega
  have HVC : W.heap.size + 1 + 1 + 1 ∉ [c, l] := by simp; omega
  obtain ⟨Q, hQ⟩ : ∃ Q, NP W [c, l] c l s x (pxV s 3 m p) (fun _ => True) = Q := ⟨_, rfl⟩
  rw [hQ]
  have HQ := Lib.hid hQ
  clear Y00 Y0 V0 g0 R0 h hcw hlw hQ
  go_enter Tryz.func94, Tryz.ntmps94
  go_wp2_with fail
  generalize (((W.alloc (.cells #[.pointer (some ⟨c, 0, none⟩), .int .i64 m] 132)).alloc (.cells #[.int .u8 0, .int .u8 0, .int .u8 0, .int .u8 0] 60)).alloc (.cells #[.int .i64 0, .int .i64 0, .int .i64 0] 34)).alloc (.cells #[.int .u8 0, .int .u8 0, .int .u8 0] 179) = w0 at HY0 HV0 HR0 ⊢
  go_loopg [9] 3 (fun q iv wr => ∃ i : Nat, i ≤ 3 ∧ q = 3 - i ∧ iv = .int .i64 i ∧ (sms s m p i).f = 0 ∧ (sms s m p i).vs.length = i ∧ (∀ v ∈ (sms s m p i).vs, v ≤ 255) ∧ (sms s m p i).a ≤ s.size ∧
    Rd c l s (sms s m p i).a (stp x (sms s m p i).n) wr ∧ SY W c l m W.heap.size wr ∧ Ab (W.heap.size + 1 + 1 + 1) (sms s m p i).vs wr)
  case atStart => exact ⟨0, Nat.zero_le _, rfl, rfl, rfl, rfl, (fun v hv => by cases hv), hps, by show Rd c l s p (stp x 0) w0; rw [stp_0]; exact HR0.out, HY0.out, HV0.out⟩
  case round =>
    obtain ⟨i, hi3, rfl, rfl, hf, hlen, hle, hap, R, Y, V⟩ := hrel
    obtain ⟨z, hz⟩ : ∃ z, sms s m p i = z := ⟨_, rfl⟩
    rw [hz] at hf hlen hle hap R V
    clear HY0 HV0 HR0
    by_cases hi : i < 3
    · have d0 : decide ((i : Int) < 3) = true := decide_eq_true (by omega)
      have Yf := Y.al (.cells #[.int .i64 0, .int .i64 0, .int .i64 0] 34)
      have Vf := V.al (.cells #[.int .i64 0, .int .i64 0, .int .i64 0] 34)
      have Ff : Fl wr.heap.size 0 0 0 (wr.alloc (.cells #[.int .i64 0, .int .i64 0, .int .i64 0] 34)) := blk_at
      have hsg := smp_gd s m z.a hap hm.1
      obtain ⟨o, ho⟩ : ∃ o, smpV s m z.a = o := ⟨_, rfl⟩
      have KN0 := tnext_calls c l s z.a m (stp x z.n) _ (R.grown (World.grownBy_alloc wr (.cells #[.int .i64 0, .int .i64 0, .int .i64 0] 34) none)) hr hm
      rw [ho] at KN0 hsg
      have KN := Lib.hid KN0
      have c0 := Yf.sx.c0
      have c1 := Yf.sx.c1
      have ylt := Y.fl.lt
      have vlt := blk_lt V
      have HYf := Lib.hid Yf
      have HVf := Lib.hid Vf
      have HFf := Lib.hid Ff
      have HFC : wr.heap.size ∉ [c, l] := by have := Y.sx.cb; have := Y.sx.lb; simp; omega
      have HZ := Lib.hid hz
      have HO := Lib.hid ho
      have HF := Lib.hid hf
      have HLEN := Lib.hid hlen
      have HLE := Lib.hid hle
      have HSG := Lib.hid hsg
      clear R Y V Yf Vf Ff KN0 hz ho hf hlen hle hsg hap
      go_wp2_with fail
      refine KN.out.mono ?_
      rintro e w1 ⟨T1, ⟨of, ov, rfl, R1⟩ | ⟨k, fm, a, q, y, bd, rfl, R1⟩⟩
      · have hs1 : sms s m p (i + 1) = ⟨0, 0, o.a, z.vs ++ [o.v], z.n + o.n⟩ := by
          rw [sms_succ, HZ.out, HO.out]
          exact ss_yes HF.out of
        have Y1 := HYf.out.turned T1
        have V1 := HVf.out.turned T1 HVC
        have F1 := HFf.out.turned T1 HFC
        obtain ⟨yv, hyv⟩ := av_at z.vs i hi
        have va : w1.cell? ⟨W.heap.size + 1 + 1 + 1, i, none⟩ = some (.int .u8 (yv : Int)) := (blk_cell V1 i).trans hyv
        have vf : w1.frozen? ⟨W.heap.size + 1 + 1 + 1, i, none⟩ = false := blk_free V1 i
        have q0 := F1.c0
        have q1 := F1.c1
        have q2 := F1.c2
        have p0 := F1.free 0
        have p1 := F1.free 1
        have p2 := F1.free 2
        have n1 : ¬ wr.heap.size = W.heap.size + 1 + 1 + 1 := by omega
        have n2 : ¬ W.heap.size + 1 + 1 + 1 = wr.heap.size := by omega
        have V2 := ((((V1.set (v := o.v) (by rw [HLEN.out]; exact hi)).oth (c := wr.heap.size) (o := 0) (v := .int .i64 0) n2).oth (c := wr.heap.size) (o := 1) (v := .int .i64 0) n2).oth (c := wr.heap.size) (o := 2) (v := .int .i64 0) n2)
        rw [HLEN.out] at V2
        have Y2 := (((Y1.st (i := i) (v := .int .u8 (o.v : Int)) (k := W.heap.size + 1 + 1 + 1) (by omega)).st (i := 0) (v := .int .i64 0) (k := wr.heap.size) (by omega)).st (i := 1) (v := .int .i64 0) (k := wr.heap.size) (by omega)).st (i := 2) (v := .int .i64 0) (k := wr.heap.size) (by omega)
        have hyb := Y1.sx.cb
        have hyl := Y1.sx.lb
        have R2 := (R1.st (k := W.heap.size + 1 + 1 + 1) (i := i) (v := .int .u8 (o.v : Int)) (by omega) (by omega)).st3 (k := wr.heap.size) (v0 := .int .i64 0) (v1 := .int .i64 0) (v2 := .int .i64 0) (by omega) (by omega)
        rw [stp_stp] at R2
        have HV2 := Lib.hid V2
        have HY2 := Lib.hid Y2
        have HR2 := Lib.hid R2
        have HS1 := Lib.hid hs1
        have HOV := Lib.hid ov
        have HOF := Lib.hid of
        clear V1 V2 Y1 Y2 F1 R1 R2 T1 hs1 ov of hyv c0 c1 hyb hyl
        simp only [okF]
        go_wp2
        go_roundg (3 - (i + 1))
        case measure => omega
        case rel =>
          refine ⟨i + 1, by omega, rfl, by go_num, ?_⟩
          rw [HS1.out]
          refine ⟨rfl, ?_, ?_, ?_, HR2.out, HY2.out, HV2.out⟩
          · show (z.vs ++ [o.v]).length = i + 1
            rw [List.length_append, HLEN.out]
            rfl
          · intro v hv
            rcases List.mem_append.1 hv with h | h
            · exact HLE.out v h
            · rw [List.mem_singleton] at h
              subst h
              exact HOV.out
          · rcases HSG.out with ⟨h1, _⟩ | ⟨_, _, h1, _⟩
            · exact absurd HOF.out h1
            · exact h1
      · have hk := bd.kne
        have d1 : (k != 0) = true := by rw [bne_iff_ne]; exact hk
        have Y1 := HYf.out.turned T1
        have V1 := HVf.out.turned T1 HVC
        have F1 := HFf.out.turned T1 HFC
        obtain ⟨yv, hyv⟩ := av_at z.vs i hi
        have va : w1.cell? ⟨W.heap.size + 1 + 1 + 1, i, none⟩ = some (.int .u8 (yv : Int)) := (blk_cell V1 i).trans hyv
        have vf : w1.frozen? ⟨W.heap.size + 1 + 1 + 1, i, none⟩ = false := blk_free V1 i
        have q0 := F1.c0
        have q1 := F1.c1
        have q2 := F1.c2
        have p0 := F1.free 0
        have p1 := F1.free 1
        have p2 := F1.free 2
        have n1 : ¬ wr.heap.size = W.heap.size + 1 + 1 + 1 := by omega
        have n2 : ¬ W.heap.size + 1 + 1 + 1 = wr.heap.size := by omega
        have Y2 := (((Y1.st (i := i) (v := .int .u8 0) (k := W.heap.size + 1 + 1 + 1) (by omega)).st (i := 0) (v := .int .i64 k) (k := wr.heap.size) (by omega)).st (i := 1) (v := .int .i64 fm) (k := wr.heap.size) (by omega)).st (i := 2) (v := .int .i64 a) (k := wr.heap.size) (by omega)
        have G2 := (Ph.Fl.oth F1 (k' := W.heap.size + 1 + 1 + 1) (o := i) (v := .int .u8 0) n1).set k fm a
        have hyb := Y1.sx.cb
        have hyl := Y1.sx.lb
        have R2 := (R1.st (k := W.heap.size + 1 + 1 + 1) (i := i) (v := .int .u8 0) (by omega) (by omega)).st3 (k := wr.heap.size) (v0 := .int .i64 k) (v1 := .int .i64 fm) (v2 := .int .i64 a) (by omega) (by omega)
        have HY2 := Lib.hid Y2
        have HR2 := Lib.hid R2
        have HG2 := Lib.hid G2
        have HBD := Lib.hid (sms_bad HZ.out HO.out HF.out hi bd)
        clear V1 Y1 Y2 F1 R1 R2 T1 G2 hyv c0 c1 hyb hyl bd hk
        go_wp2_with fail
        generalize (((w1.setCell ⟨W.heap.size + 1 + 1 + 1, i, none⟩ (.int .u8 0)).setCell ⟨wr.heap.size, 0, none⟩ (.int .i64 k)).setCell ⟨wr.heap.size, 1, none⟩ (.int .i64 fm)).setCell ⟨wr.heap.size, 2, none⟩ (.int .i64 a) = w2 at HY2 HR2 HG2 ⊢
        clear q0 q1 q2 p0 p1 p2 va vf
        have q0 := HG2.out.c0
        have q1 := HG2.out.c1
        have q2 := HG2.out.c2
        have r0 := HY2.out.co.c0
        have r1 := HY2.out.co.c1
        have r2 := HY2.out.co.c2
        have r3 := HY2.out.co.c3
        have f0 := HY2.out.co.free 0
        have f1 := HY2.out.co.free 1
        have f2 := HY2.out.co.free 2
        have f3 := HY2.out.co.free 3
        have t0 := HY2.out.fl.c0
        have t1 := HY2.out.fl.c1
        have t2 := HY2.out.fl.c2
        have g0 := HY2.out.fl.free 0
        have g1 := HY2.out.fl.free 1
        have g2 := HY2.out.fl.free 2
        have n3 : ¬ wr.heap.size = W.heap.size + 1 := by omega
        have n4 : ¬ W.heap.size + 1 = wr.heap.size := by omega
        have n5 : ¬ wr.heap.size = W.heap.size + 1 + 1 := by omega
        have n6 : ¬ W.heap.size + 1 + 1 = wr.heap.size := by omega
        go_region
        go_wp2
        try rw [Exit.noGoto_ret]
        refine bodyPost_ret (v := .tuple #[.agg #[.int .u8 0, .int .u8 0, .int .u8 0, .int .u8 0], .agg #[.int .i64 k, .int .i64 fm, .int .i64 a]]) (by simp only [results, Tryz.results94]; go_simp) rfl ?_
        rw [← HQ.out]
        exact ⟨(Tn.owns3 (Tn.own4 HY2.out.sx.tn (Nat.le_succ _)) (Nat.le_add_right _ 2)).dr, .inr ⟨k, fm, a, q, y, HBD.out, rfl, (Rd.st3 (rd4 HR2.out HKC HKL) HJC HJL).grown (gb_drew _ _)⟩⟩
    · obtain rfl : i = 3 := by omega
      have d0 : decide (((3 : Nat) : Int) < 3) = false := rfl
      obtain ⟨v0, hv0⟩ : ∃ v, z.vs.getD 0 0 = v := ⟨_, rfl⟩
      obtain ⟨v1, hv1⟩ : ∃ v, z.vs.getD 1 0 = v := ⟨_, rfl⟩
      obtain ⟨v2, hv2⟩ : ∃ v, z.vs.getD 2 0 = v := ⟨_, rfl⟩
      have VB := V
      unfold Ab AV at VB
      rw [hv0, hv1, hv2] at VB
      have e0 : wr.cell? ⟨W.heap.size + 1 + 1 + 1, 0, none⟩ = some (.int .u8 (v0 : Int)) := blk_cell VB 0
      have e1 : wr.cell? ⟨W.heap.size + 1 + 1 + 1, 1, none⟩ = some (.int .u8 (v1 : Int)) := blk_cell VB 1
      have e2 : wr.cell? ⟨W.heap.size + 1 + 1 + 1, 2, none⟩ = some (.int .u8 (v2 : Int)) := blk_cell VB 2
      have hpx : pxV s 3 m p = ⟨0, z.p, z.a, v0, v1, v2, z.n⟩ := by
        rw [px3_is, hz, hf, hv0, hv1, hv2]
      have hb : v0 ≤ 255 ∧ v1 ≤ 255 ∧ v2 ≤ 255 := by
        rw [← hv0, ← hv1, ← hv2]
        refine ⟨hle _ ?_, hle _ ?_, hle _ ?_⟩
        all_goals
          rw [List.getD_eq_getElem?_getD, List.getElem?_eq_getElem (by omega)]
          exact List.getElem_mem _
      have KC := Lib.hid (fun u => xcolor_calls (v0 : Int) (v1 : Int) (v2 : Int) u)
      have HPX := Lib.hid hpx
      have HBB := Lib.hid hb
      have HY := Lib.hid Y
      have HR := Lib.hid R
      clear VB V hpx hb Y R hv0 hv1 hv2 hz hf hlen hle hap
      go_wp2_with fail
      refine (KC.out _).mono ?_
      rintro e w1 ⟨rfl, gg⟩
      have Y1 := HY.out.gb gg
      have r0 := Y1.co.c0
      have r1 := Y1.co.c1
      have r2 := Y1.co.c2
      have r3 := Y1.co.c3
      have f0 := Y1.co.free 0
      have f1 := Y1.co.free 1
      have f2 := Y1.co.free 2
      have f3 := Y1.co.free 3
      have t0 := Y1.fl.c0
      have t1 := Y1.fl.c1
      have t2 := Y1.fl.c2
      have g0 := Y1.fl.free 0
      have g1 := Y1.fl.free 1
      have g2 := Y1.fl.free 2
      have HY1 := Lib.hid Y1
      have HR1 := Lib.hid (HR.out.grown gg)
      clear Y1 gg e0 e1 e2
      go_wp2
      try rw [Exit.noGoto_ret]
      refine bodyPost_ret (v := .tuple #[.agg #[.int .u8 v0, .int .u8 v1, .int .u8 v2, .int .u8 255], okF]) (by simp only [results, Tryz.results94, okF]; go_simp) rfl ?_
      rw [← HQ.out, HPX.out]
      exact ⟨Tn.owns3 (Tn.own4 HY1.out.sx.tn (Nat.le_succ _)) (Nat.le_add_right _ 2), .inl ⟨rfl, HBB.out, rfl, Rd.st3 (rd4 HR1.out HKC HKL) HJC HJL, trivial⟩⟩

end Go.Proofs.YtcfdippcobkbaaaGreat.Px

/- A raster is filled: what is carried, and how it ends. -/
namespace Go.Proofs.YtcfdippcobkbaaaGreat.Px
open Go.ChangeShapes Go.WideShapes Go.ChangeAt Go.RowKit
open Go.Proofs.YtcfdippcobkbaaaGreat.Le Go.Proofs.YtcfdippcobkbaaaGreat.Tk Go.Proofs.YtcfdippcobkbaaaGreat.Sc Go.Proofs.YtcfdippcobkbaaaGreat.Sr Go.Proofs.YtcfdippcobkbaaaGreat.Ph Go.Proofs.YtcfdippcobkbaaaGreat.Ra
set_option linter.unusedVariables false

theorem fz_l1 {P : Nat → Nat → PX} {a0 : Nat} (i : Nat) : (fz P a0 i).l.length ≤ (fz P a0 (i + 1)).l.length := by
  rw [fz_succ]
  unfold PS.step
  split
  · exact Nat.le_refl _
  · split
    · exact Nat.le_refl _
    · show _ ≤ (_ ++ [_]).length
      rw [List.length_append]
      exact Nat.le_add_right _ _
theorem fz_l {P : Nat → Nat → PX} {a0 i : Nat} : ∀ j, i ≤ j → (fz P a0 i).l.length ≤ (fz P a0 j).l.length := by
  intro j hj
  induction j with
  | zero =>
    obtain rfl : i = 0 := by omega
    exact Nat.le_refl _
  | succ j ih =>
    by_cases hij : i = j + 1
    · subst hij
      exact Nat.le_refl _
    · exact Nat.le_trans (ih (by omega)) (fz_l1 j)
/-- A pixel that ends badly ends the whole so. -/
theorem fz_bad {s : ByteArray} {x : St} {P : Nat → Nat → PX} {a0 i N : Nat} {z : PS} {o : PX} {k g b : Int} {q : Nat} {y : St} (hz : fz P a0 i = z) (ho : P i z.a = o) (h0 : z.f = 0) (hi : i < N) (h : BD s (stp x (z.n + i)) o.f o.p o.n k g b q y) :
    BD s x (fz P a0 N).f (fz P a0 N).p ((fz P a0 N).n + (fz P a0 N).l.length) k g b q y := by
  have hl := fz_len i (by rw [hz]; exact h0)
  rw [hz] at hl
  refine h.lift (fun hf => ?_) ?_
  · have e1 := fz_fault (P := P) (a0 := a0) (i := i) (by rw [hz]; exact h0) (by rw [hz, ho]; exact hf)
    rw [hz, ho] at e1
    have e2 := fz_stay (P := P) (a0 := a0) (i := i + 1) (by rw [e1]; exact hf) N hi
    rw [e2, e1]
    refine ⟨rfl, rfl, ?_⟩
    show z.n + o.n + z.l.length = _
    omega
  · have h1 := fz_next (P := P) (a0 := a0) (i := i) (by rw [hz]; exact h0) hi
    have h2 := fz_l (P := P) (a0 := a0) (i := i) N (by omega)
    rw [hz, ho] at h1
    rw [hz] at h2
    omega
theorem fz_set {x : St} {P : Nat → Nat → PX} {a0 i N : Nat} {z : PS} {o : PX} (hz : fz P a0 i = z) (ho : P i z.a = o) (h0 : z.f = 0) (h1 : o.f = 0) (hi : i < N) (h : x.s < x.st + ((z.n + i + o.n : Nat) : Int) + 1) :
    x.s < x.st + (((fz P a0 N).n + (fz P a0 N).l.length : Nat) : Int) := by
  have e1 := fz_yes (P := P) (a0 := a0) (i := i) (by rw [hz]; exact h0) (by rw [hz, ho]; exact h1)
  rw [hz, ho] at e1
  have h2 := fz_l (P := P) (a0 := a0) (i := i + 1) N hi
  have h3 := fz_n (P := P) (a0 := a0) (i := i + 1) N hi
  have hl := fz_len i (by rw [hz]; exact h0)
  rw [hz] at hl
  rw [e1] at h2 h3
  have h4 : z.l.length + 1 ≤ (fz P a0 N).l.length := by
    have e : (z.l ++ [(o.r, o.g, o.b)]).length = z.l.length + 1 := by simp
    rw [← e]
    exact h2
  have h5 : z.n + o.n ≤ (fz P a0 N).n := h3
  omega

/-- A pixel is set, its step let. -/
theorem set_pix (r l cb g w h x y i : Nat) (L : List (Nat × Nat × Nat)) (v0 v1 v2 : Nat) (q : St) (u : World) (hv : v0 ≤ 255 ∧ v1 ≤ 255 ∧ v2 ≤ 255) (hL : L.length = i) (hro : Ro r l cb g w h (rb L (w * h)) u) (hl : Led l q.ls u) (ok : q.Ok) (hr : q.r = 0) (hq : q.st + 1 ≤ q.s)
    (hx : x < w) (hy : y < h) (hw : w ≤ 16384) (hh : h ≤ 16384) (hp : y * w + x = i) :
    Calls Tryz.prog 90 #[.pointer (some ⟨r, 0, none⟩), .int .i64 x, .int .i64 y, .agg #[.int .u8 (v0 : Int), .int .u8 (v1 : Int), .int .u8 (v2 : Int), .int .u8 255]] u
      fun e u' => e = .returned (.bool true) ∧ (Ro r l cb g w h (rb (L ++ [(v0, v1, v2)]) (w * h)) u' ∧ Led l (stp q 1).ls u') ∧ Tn u u' [l, g] := by
  have hwk := work_one hr hq
  have K := set_px r l cb g w h x y i (rb L (w * h)) q (UInt8.ofNat v0) (UInt8.ofNat v1) (UInt8.ofNat v2) 255 u hro hl ok (by rw [hwk]) hx hy hw hh hp
  have e : ∀ v : Nat, v ≤ 255 → ((UInt8.ofNat v).toNat : Int) = (v : Int) := fun v hv => by
    rw [UInt8.toNat_ofNat']
    omega
  rw [e v0 hv.1, e v1 hv.2.1, e v2 hv.2.2, show ((255 : UInt8).toNat : Int) = 255 from rfl, hwk] at K
  refine K.mono ?_
  rintro e1 u' ⟨he, ⟨R, D⟩, T⟩
  have hi : i < w * h := by
    have := Nat.mul_le_mul_right w (show y + 1 ≤ h by omega)
    rw [Nat.add_mul, Nat.one_mul] at this
    rw [Nat.mul_comm w h]
    omega
  have hp2 := rb_put L (v0, v1, v2) (w * h) (by omega)
  rw [hL] at hp2
  rw [hp2] at R
  exact ⟨he, ⟨R, D⟩, tnB T⟩
/-- Its step is refused. -/
theorem set_nix (r l cb g w h x y i : Nat) (R : ByteArray) (v0 v1 v2 : Nat) (q : St) (u : World) (hro : Ro r l cb g w h R u) (hl : Led l q.ls u) (ok : q.Ok) (hr : q.r = 0) (hq : q.s < q.st + 1)
    (hx : x < w) (hy : y < h) (hw : w ≤ 16384) (hh : h ≤ 16384) (hp : y * w + x = i) :
    Calls Tryz.prog 90 #[.pointer (some ⟨r, 0, none⟩), .int .i64 x, .int .i64 y, .agg #[.int .u8 (v0 : Int), .int .u8 (v1 : Int), .int .u8 (v2 : Int), .int .u8 255]] u
      fun e u' => e = .returned (.bool false) ∧ (Ro r l cb g w h R u' ∧ Led l (spent q).ls u') ∧ Tn u u' [l, g] := by
  have hwk := work_none ok hr hq
  have K := set_spent r l cb g w h x y i R q (v0 : Int) (v1 : Int) (v2 : Int) 255 u hro hl ok (by rw [hwk]) hx hy hw hh hp
  rw [hwk] at K
  exact K
theorem spent_ok {x : St} (h : x.Ok) (hr : x.r = 0) (hq : x.s < x.st + 1) : (spent x).Ok := by
  have := h.work 1
  rw [work_none h hr hq] at this
  exact this
theorem stp1_ok {x : St} (h : x.Ok) (hr : x.r = 0) (hq : x.st + 1 ≤ x.s) : (stp x 1).Ok := by
  have := h.work 1
  rw [work_one hr hq] at this
  exact this
/-- A source whose ledger goes on. -/
theorem rd_next {c l : Nat} {s : ByteArray} {p : Nat} {x y : St} {w w' : World} {S : List Nat} (h : Rd c l s p x w) (t : Tn w w' S) (hc : c ∉ S) (hL : Led l y.ls w') (ok : y.Ok) : Rd c l s p y w' := ⟨h.so.turned t hc, hL, ok⟩

/-- Behind a raster's filling, where z is what all its pixels tell. -/
def FP2 (W : World) (S : List Nat) (c l r cb g : Nat) (s : ByteArray) (x : St) (w h : Nat) (z : PS) (e : Ending) (w' : World) : Prop :=
  Tn W w' (g :: S) ∧ ((z.f = 0 ∧ e = .returned okF ∧ Rd c l s z.a (stp x (z.n + w * h)) w' ∧ Ro r l cb g w h (rb z.l (w * h)) w') ∨
    (∃ (k gm a : Int) (q : Nat) (y : St) (R : ByteArray), BD s x z.f z.p (z.n + z.l.length) k gm a q y ∧ e = .returned (.agg #[.int .i64 k, .int .i64 gm, .int .i64 a]) ∧ Rd c l s q y w' ∧ Ro r l cb g w h R w'))

/-- The blocks that a filling works on. -/
structure FS (W : World) (S : List Nat) (c l r cb g : Nat) : Prop where
  sl : ∀ k, k ∈ S → k < W.heap.size
  cS : c ∈ S
  lS : l ∈ S
  rS : r ∉ S
  bS : cb ∉ S
  gS : g ∉ S
  rg : r ≠ g
  bg : cb ≠ g
  glt : g < W.heap.size
  rlt : r < W.heap.size
  blt : cb < W.heap.size
theorem ro_turn {r l c g a b : Nat} {s : ByteArray} {w w' : World} {S : List Nat} (h : Ro r l c g a b s w) (k : Tn w w' S) (h1 : r ∉ S) (h2 : c ∉ S) (h3 : g ∉ S) : Ro r l c g a b s w' :=
  ⟨(k.block r h.lt h1).trans h.blk, ⟨(k.block c h.buf.lt h2).trans h.buf.blk, (k.block g h.buf.glt h3).trans h.buf.byt, h.buf.big, h.buf.bl, h.buf.bg, h.buf.gl⟩, h.sz, h.rl, h.rc, h.rg⟩

/-- What is carried from pixel to pixel: i of them are set. -/
structure FI (W : World) (S : List Nat) (c l r cb g : Nat) (s : ByteArray) (x : St) (w h : Nat) (k m a : Int) (P : Nat → Nat → PX) (a0 : Nat) (X : Nat → World → Prop) (i : Nat) (u : World) : Prop where
  z0 : (fz P a0 i).f = 0
  rd : Rd c l s (fz P a0 i).a (stp x ((fz P a0 i).n + i)) u
  ro : Ro r l cb g w h (rb (fz P a0 i).l (w * h)) u
  xx : X i u
  tn : Tn W u (g :: S)
  hd : Hc W.heap.size k w h m a u
  fl : Fl (W.heap.size + 1) 0 0 0 u

theorem FI.step {W : World} {S : List Nat} {c l r cb g : Nat} {s : ByteArray} {x : St} {w h : Nat} {k m a : Int} {P : Nat → Nat → PX} {a0 : Nat} {X : Nat → World → Prop} {i : Nat} {z : PS} {o : PX} {u : World} (hz : fz P a0 i = z) (ho : P i z.a = o) (h0 : z.f = 0) (of : o.f = 0)
    (R : Rd c l s o.a (stp x (z.n + i + o.n + 1)) u) (ro : Ro r l cb g w h (rb (z.l ++ [(o.r, o.g, o.b)]) (w * h)) u) (xx : X (i + 1) u) (tn : Tn W u (g :: S)) (hd : Hc W.heap.size k w h m a u) (fl : Fl (W.heap.size + 1) 0 0 0 u) :
    FI W S c l r cb g s x w h k m a P a0 X (i + 1) u := by
  have e1 := fz_yes (P := P) (a0 := a0) (i := i) (by rw [hz]; exact h0) (by rw [hz, ho]; exact of)
  rw [hz, ho] at e1
  refine ⟨by rw [e1], ?_, ?_, xx, tn, hd, fl⟩
  · rw [e1]
    show Rd c l s o.a (stp x (z.n + o.n + (i + 1))) u
    rw [show z.n + o.n + (i + 1) = z.n + i + o.n + 1 from by omega]
    exact R
  · rw [e1]
    exact ro
theorem FS.ne {W : World} {S : List Nat} {c l r cb g : Nat} (h : FS W S c l r cb g) {k : Nat} (hk : W.heap.size ≤ k) : k ∉ S := fun hS => by
  have := h.sl k hS
  omega
theorem FS.cg {W : World} {S : List Nat} {c l r cb g : Nat} (h : FS W S c l r cb g) : c ≠ g := fun e => h.gS (e ▸ h.cS)
theorem FS.lg {W : World} {S : List Nat} {c l r cb g : Nat} (h : FS W S c l r cb g) : l ≠ g := fun e => h.gS (e ▸ h.lS)
/-- What two calls may turn. -/
theorem FS.two {W : World} {S : List Nat} {c l r cb g : Nat} (h : FS W S c l r cb g) {u u' : World} (t : Tn u u' [l, g]) : Tn u u' (g :: S) := t.mono (fun k hk => by
  rcases List.mem_cons.1 hk with rfl | hk
  · exact List.mem_cons_of_mem _ h.lS
  · rw [List.mem_singleton] at hk
    subst hk
    exact List.mem_cons_self)
theorem FS.one {S : List Nat} {g : Nat} {u u' : World} (t : Tn u u' S) : Tn u u' (g :: S) := t.mono (fun k hk => List.mem_cons_of_mem _ hk)

theorem own_ne {W : World} {S : List Nat} {c l r cb g : Nat} (h : FS W S c l r cb g) {k : Nat} (hk : k ∈ S) : W.heap.size + 1 ≠ k := by
  have := h.sl k hk
  omega
theorem ro_own {W : World} {S : List Nat} {c l r cb g w h : Nat} {R : ByteArray} {u : World} {v0 v1 v2 : Value} (fs : FS W S c l r cb g) (hro : Ro r l cb g w h R u) :
    Ro r l cb g w h R (((u.setCell ⟨W.heap.size + 1, 0, none⟩ v0).setCell ⟨W.heap.size + 1, 1, none⟩ v1).setCell ⟨W.heap.size + 1, 2, none⟩ v2) :=
  ro_turn hro ((((Tn.refl u [W.heap.size + 1]).st (by simp)).st (by simp)).st (by simp)) (by have := fs.rlt; simp; omega) (by have := fs.blt; simp; omega) (by have := fs.glt; simp; omega)

end Go.Proofs.YtcfdippcobkbaaaGreat.Px

/- A raster is filled by (tintype/pnmtext.samples).ink (written by wip/gen/fil1.py). -/
namespace Go.Proofs.YtcfdippcobkbaaaGreat.Px
open Go.ChangeShapes Go.WideShapes Go.ChangeAt Go.RowKit
open Go.Proofs.YtcfdippcobkbaaaGreat.Le Go.Proofs.YtcfdippcobkbaaaGreat.Tk Go.Proofs.YtcfdippcobkbaaaGreat.Sc Go.Proofs.YtcfdippcobkbaaaGreat.Sr Go.Proofs.YtcfdippcobkbaaaGreat.Ph Go.Proofs.YtcfdippcobkbaaaGreat.Ra
set_option linter.unusedVariables false

set_option maxRecDepth 100000 in
set_option maxHeartbeats 8000000 in
theorem fill_ink (S : List Nat) (c l r cb g : Nat) (s : ByteArray) (x : St) (w h : Nat) (k m a : Int) (P : Nat → Nat → PX) (a0 : Nat) (X Y : Nat → World → Prop) (mm : Int) (W : World)
    (fs : FS W S c l r cb g) (hw : w ≤ 16384) (hh : h ≤ 16384) (hr : x.r = 0) (R0 : Rd c l s a0 x W) (O0 : Ro r l cb g w h (rb [] (w * h)) W) (X0 : X 0 W)
    (hX : ∀ i u u', X i u → u.grownBy u' none → X i u') (hY : ∀ i u u', Y i u → Tn u u' [l, g] → X (i + 1) u')
    (KN : ∀ (y x' : Nat) (z : PS) (u : World), y < h → x' < w → fz P a0 (y * w + x') = z → z.f = 0 → Rd c l s z.a (stp x (z.n + (y * w + x'))) u → X (y * w + x') u →
      Calls Tryz.prog 92 #[.agg #[.pointer (some ⟨c, 0, none⟩), .int .i64 mm], .int .i64 x'] u (NP u S c l s (stp x (z.n + (y * w + x'))) (P (y * w + x') z.a) (Y (y * w + x')))) :
    Calls Tryz.prog 61 #[.pointer (some ⟨c, 0, none⟩), .agg #[.int .i64 k, .int .i64 w, .int .i64 h, .int .i64 m, .int .i64 a], .pointer (some ⟨r, 0, none⟩), (.func (.func 92) #[.agg #[.pointer (some ⟨c, 0, none⟩), .int .i64 mm]] #[])] W
      (FP2 W S c l r cb g s x w h (fz P a0 (w * h))) := by
  obtain ⟨Q, hQ⟩ : ∃ Q, FP2 W S c l r cb g s x w h (fz P a0 (w * h)) = Q := ⟨_, rfl⟩
  rw [hQ]
  have HQ := Lib.hid hQ
  have g0 := gb_trans (World.grownBy_alloc W (.cells #[.int .i64 k, .int .i64 w, .int .i64 h, .int .i64 m, .int .i64 a] 70) none) (World.grownBy_alloc _ (.cells #[.int .i64 0, .int .i64 0, .int .i64 0] 34) none)
  have I0 : FI W S c l r cb g s x w h k m a P a0 X 0 ((W.alloc (.cells #[.int .i64 k, .int .i64 w, .int .i64 h, .int .i64 m, .int .i64 a] 70)).alloc (.cells #[.int .i64 0, .int .i64 0, .int .i64 0] 34)) := by
    refine ⟨rfl, ?_, ro_turn O0 (Tn.gb g0 (S := []) (by simp)) (by simp) (by simp) (by simp), hX _ _ _ X0 g0, Tn.gb g0 (by simp), Hc.al blk_at _, ?_⟩
    · show Rd c l s a0 (stp x 0) _
      rw [stp_0]
      exact R0.grown g0
    · rw [← size_alloc W (.cells #[.int .i64 k, .int .i64 w, .int .i64 h, .int .i64 m, .int .i64 a] 70)]
      exact Fl.new _
  have HI0 := Lib.hid I0
  have HFS := Lib.hid fs
  have HX := Lib.hid hX
  have HY := Lib.hid hY
  have HKN := Lib.hid KN
  have HR := Lib.hid hr
  clear hQ g0 I0 fs hX hY KN hr R0 O0 X0
  go_enter Tryz.func61, Tryz.ntmps61
  go_wp2_with fail
  generalize (W.alloc (.cells #[.int .i64 k, .int .i64 w, .int .i64 h, .int .i64 m, .int .i64 a] 70)).alloc (.cells #[.int .i64 0, .int .i64 0, .int .i64 0] 34) = w0 at HI0 ⊢
  have hc2 := HI0.out.hd.c2
  go_wp2_with fail
  clear hc2
  go_loopg [15] h (fun q yv wr => ∃ y : Nat, y ≤ h ∧ q = h - y ∧ yv = .int .i64 y ∧ FI W S c l r cb g s x w h k m a P a0 X (y * w) wr)
  case atStart => exact ⟨0, Nat.zero_le _, rfl, rfl, by rw [Nat.zero_mul]; exact HI0.out⟩
  case round =>
    obtain ⟨y, hyh, rfl, rfl, I⟩ := hrel
    have HI := Lib.hid I
    have hc1 := I.hd.c1
    have hc2 := I.hd.c2
    clear I HI0
    by_cases hy : y < h
    · have d0 : decide ((y : Int) < (h : Int)) = true := decide_eq_true (by omega)
      go_wp2_with fail
      go_loopg [20] w (fun q xv wr2 => ∃ x' : Nat, x' ≤ w ∧ q = w - x' ∧ xv = .int .i64 x' ∧ FI W S c l r cb g s x w h k m a P a0 X (y * w + x') wr2)
      case atStart => exact ⟨0, Nat.zero_le _, rfl, rfl, by rw [Nat.add_zero]; exact HI.out⟩
      case round =>
        clear HI hc1 hc2
        obtain ⟨x', hxw, rfl, rfl, I⟩ := hrel
        have HI := Lib.hid I
        clear I
        by_cases hx : x' < w
        · have d1 : decide ((x' : Int) < (w : Int)) = true := decide_eq_true (by omega)
          obtain ⟨z, hz⟩ : ∃ z, fz P a0 (y * w + x') = z := ⟨_, rfl⟩
          obtain ⟨i, hi⟩ : ∃ i, y * w + x' = i := ⟨_, rfl⟩
          have KK := HKN.out y x' z wr hy hx hz
          rw [hi] at KK hz HI
          have I2 := HI.out
          have z0 := I2.z0
          have rd := I2.rd
          have ro := I2.ro
          rw [hz] at z0 rd ro
          have K1 := KK z0 rd I2.xx
          have hL := fz_len (P := P) (a0 := a0) i I2.z0
          rw [hz] at hL
          have hiN : i < w * h := by
            have := Nat.mul_le_mul_right w (show y + 1 ≤ h by omega)
            rw [Nat.add_mul, Nat.one_mul] at this
            rw [Nat.mul_comm w h]
            omega
          obtain ⟨oo, hoo⟩ : ∃ oo, P i z.a = oo := ⟨_, rfl⟩
          rw [hoo] at K1
          have K2 := Lib.hid K1
          have HZ := Lib.hid hz
          have HOO := Lib.hid hoo
          have HZ0 := Lib.hid z0
          have HRO := Lib.hid ro
          have HTN := Lib.hid I2.tn
          have HHD := Lib.hid I2.hd
          have HFL := Lib.hid I2.fl
          have HL := Lib.hid hL
          have HP := Lib.hid hi
          have HN := Lib.hid hiN
          clear KK I2 z0 rd ro K1 hL hz hoo hi hiN HI
          go_wp2_with fail
          refine K2.out.mono ?_
          rintro e w1 ⟨T1, ⟨of, ov, rfl, R1, Y1⟩ | ⟨kk, fm, aa, q, yy, bd, rfl, R1⟩⟩
          · have gy := (gb_trans (World.grownBy_alloc w1 (.cells #[.int .u8 (oo.r : Int), .int .u8 (oo.g : Int), .int .u8 (oo.b : Int), .int .u8 255] 60) none) (World.grownBy_alloc _ (.cells #[.int .i64 0, .int .i64 0, .int .i64 0] 34) none))
            have NW0 : W.heap.size ∉ S := HFS.out.ne (Nat.le_refl _)
            have NW1 : W.heap.size + 1 ∉ S := HFS.out.ne (Nat.le_succ _)
            have ro2 := ro_turn HRO.out (T1.trans (Tn.gb gy (by simp))) HFS.out.rS HFS.out.bS HFS.out.gS
            have hd2 := (HHD.out.turned T1 NW0).turned (Tn.gb gy (S := []) (by simp)) (by simp)
            have fl2 := (HFL.out.turned T1 NW1).turned (Tn.gb gy (S := []) (by simp)) (by simp)
            have rd2 := R1.grown gy
            have tn2 := (HTN.out.trans (FS.one T1)).trans (Tn.gb gy (by simp))
            have HY2 := Lib.hid (fun u' (t : Tn w1 u' [l, g]) => HY.out i w1 u' Y1 t)
            have HG := Lib.hid gy
            have HRO2 := Lib.hid ro2
            have HHD2 := Lib.hid hd2
            have HFL2 := Lib.hid fl2
            have HRD2 := Lib.hid rd2
            have HTN2 := Lib.hid tn2
            have HOF := Lib.hid of
            have HOV := Lib.hid ov
            have C2 : Co w1.heap.size oo.r oo.g oo.b 255 ((w1.alloc (.cells #[.int .u8 (oo.r : Int), .int .u8 (oo.g : Int), .int .u8 (oo.b : Int), .int .u8 255] 60)).alloc (.cells #[.int .i64 0, .int .i64 0, .int .i64 0] 34)) := blk_al blk_at _
            have HC2 := Lib.hid C2
            clear gy ro2 hd2 fl2 rd2 tn2 of ov R1 Y1 T1 HRO HHD HFL HTN K2 C2
            simp only [okF]
            go_wp2_with fail
            generalize (w1.alloc (.cells #[.int .u8 (oo.r : Int), .int .u8 (oo.g : Int), .int .u8 (oo.b : Int), .int .u8 255] 60)).alloc (.cells #[.int .i64 0, .int .i64 0, .int .i64 0] 34) = w2 at HG HRO2 HHD2 HFL2 HRD2 HTN2 HC2 ⊢
            have hrr : (stp (stp x (z.n + i)) oo.n).r = 0 := HR.out
            by_cases hk : (stp (stp x (z.n + i)) oo.n).st + 1 ≤ (stp (stp x (z.n + i)) oo.n).s
            · refine (set_pix r l cb g w h x' y i z.l oo.r oo.g oo.b _ w2 HOV.out HL.out HRO2.out HRD2.out.led HRD2.out.ok hrr hk hx hy hw hh HP.out).mono ?_
              rintro e w3 ⟨rfl, ⟨ro3, ld3⟩, T3⟩
              have rd3 := rd_next HRD2.out T3 (by simp; exact ⟨HRD2.out.so.bl, HFS.out.cg⟩) ld3 (stp1_ok HRD2.out.ok hrr hk)
              rw [stp_stp, stp_stp] at rd3
              have N0 : W.heap.size ∉ [l, g] := by have h1 := HFS.out.sl l HFS.out.lS; have h2 := HFS.out.glt; simp; omega
              have N1 : W.heap.size + 1 ∉ [l, g] := by have h1 := HFS.out.sl l HFS.out.lS; have h2 := HFS.out.glt; simp; omega
              have I3 := Lib.hid (FI.step HZ.out HOO.out HZ0.out HOF.out rd3 ro3 (HY2.out w3 ((Tn.gb HG.out (by simp)).trans T3)) (HTN2.out.trans (HFS.out.two T3)) (HHD2.out.turned T3 N0) (HFL2.out.turned T3 N1))
              have HP2 := Lib.hid (show y * w + (x' + 1) = i + 1 by have := HP.out; omega)
              clear ro3 ld3 T3 rd3 hk
              go_wp2
              go_roundg (w - (x' + 1))
              case measure => omega
              case rel => exact ⟨x' + 1, by omega, rfl, by go_num, by rw [HP2.out]; exact I3.out⟩
            · have hk' : (stp (stp x (z.n + i)) oo.n).s < (stp (stp x (z.n + i)) oo.n).st + 1 := by omega
              refine (set_nix r l cb g w h x' y i _ oo.r oo.g oo.b _ w2 HRO2.out HRD2.out.led HRD2.out.ok hrr hk' hx hy hw hh HP.out).mono ?_
              rintro e w3 ⟨rfl, ⟨ro3, ld3⟩, T3⟩
              have rd3 := rd_next HRD2.out T3 (by simp; exact ⟨HRD2.out.so.bl, HFS.out.cg⟩) ld3 (spent_ok HRD2.out.ok hrr hk')
              rw [stp_spent, stp_spent] at rd3
              have hbd := fz_set (N := w * h) HZ.out HOO.out HZ0.out HOF.out HN.out (x := x) (by rw [stp_stp, stp_st, stp_s] at hk'; exact hk')
              have N1 : W.heap.size + 1 ∉ [l, g] := by have h1 := HFS.out.sl l HFS.out.lS; have h2 := HFS.out.glt; simp; omega
              have KA := Lib.hid (at_rd c l s _ _ w3 rd3)
              have KF := Lib.hid (fun u => xfault_calls 4 (oo.a : Int) u)
              have fl3 := HFL2.out.turned T3 N1
              have hap := rd3.so.pt
              have HRO3 := Lib.hid ro3
              have HRD3 := Lib.hid rd3
              have HT3 := Lib.hid (HTN2.out.trans (HFS.out.two T3))
              have HFL3 := Lib.hid fl3
              have HBD := Lib.hid hbd
              clear ro3 ld3 T3 rd3 hk hk' hbd fl3
              go_wp2_with fail
              refine KA.out.mono ?_
              rintro e w' ⟨rfl, rfl⟩
              go_wp2_with fail
              refine (KF.out _).mono ?_
              rintro e w4 ⟨rfl, g4⟩
              have F4 := HFL3.out.turned (Tn.gb g4 (S := []) (by simp)) (by simp)
              have r0 := F4.c0
              have r1 := F4.c1
              have r2 := F4.c2
              have f0 := F4.free 0
              have f1 := F4.free 1
              have f2 := F4.free 2
              have HRO4 := Lib.hid (ro_turn HRO3.out (Tn.gb g4 (S := []) (by simp)) (by simp) (by simp) (by simp))
              have HRD4 := Lib.hid (HRD3.out.grown g4)
              have HT4 := Lib.hid (HT3.out.trans (Tn.gb g4 (by simp)))
              clear F4 g4
              go_wp2
              try rw [Exit.noGoto_ret]
              refine bodyPost_ret (v := .agg #[.int .i64 4, .int .i64 3, .int .i64 oo.a]) (by simp only [results, Tryz.results61]; go_simp) rfl ?_
              rw [← HQ.out]
              exact ⟨Tn.owns3 HT4.out (Nat.le_succ _), .inr ⟨4, 3, oo.a, oo.a, _, _, ⟨hap, .inr ⟨HBD.out, rfl, rfl, rfl, rfl⟩⟩, rfl, HRD4.out.st3 (own_ne HFS.out HFS.out.cS) (own_ne HFS.out HFS.out.lS), ro_own HFS.out HRO4.out⟩⟩
          · have hk := bd.kne
            have d2 : (kk != 0) = true := by rw [bne_iff_ne]; exact hk
            have gy := (gb_trans (World.grownBy_alloc w1 (.cells #[.int .u8 0, .int .u8 0, .int .u8 0, .int .u8 0] 60) none) (World.grownBy_alloc _ (.cells #[.int .i64 kk, .int .i64 fm, .int .i64 aa] 34) none))
            have NW0 : W.heap.size ∉ S := HFS.out.ne (Nat.le_refl _)
            have NW1 : W.heap.size + 1 ∉ S := HFS.out.ne (Nat.le_succ _)
            have ro2 := ro_turn HRO.out (T1.trans (Tn.gb gy (by simp))) HFS.out.rS HFS.out.bS HFS.out.gS
            have hd2 := (HHD.out.turned T1 NW0).turned (Tn.gb gy (S := []) (by simp)) (by simp)
            have fl2 := (HFL.out.turned T1 NW1).turned (Tn.gb gy (S := []) (by simp)) (by simp)
            have rd2 := R1.grown gy
            have tn2 := (HTN.out.trans (FS.one T1)).trans (Tn.gb gy (by simp))
            have C2 : Co w1.heap.size 0 0 0 0 ((w1.alloc (.cells #[.int .u8 0, .int .u8 0, .int .u8 0, .int .u8 0] 60)).alloc (.cells #[.int .i64 kk, .int .i64 fm, .int .i64 aa] 34)) := blk_al blk_at _
            have G2 : Fl (w1.heap.size + 1) kk fm aa ((w1.alloc (.cells #[.int .u8 0, .int .u8 0, .int .u8 0, .int .u8 0] 60)).alloc (.cells #[.int .i64 kk, .int .i64 fm, .int .i64 aa] 34)) := by
              rw [← size_alloc w1 (.cells #[.int .u8 0, .int .u8 0, .int .u8 0, .int .u8 0] 60)]
              exact blk_at
            have HBD := Lib.hid (fz_bad HZ.out HOO.out HZ0.out HN.out bd)
            have q0 := G2.c0
            have q1 := G2.c1
            have q2 := G2.c2
            have r0 := fl2.c0
            have r1 := fl2.c1
            have r2 := fl2.c2
            have f0 := fl2.free 0
            have f1 := fl2.free 1
            have f2 := fl2.free 2
            have HRO2 := Lib.hid ro2
            have HRD2 := Lib.hid rd2
            have HTN2 := Lib.hid tn2
            clear gy ro2 hd2 fl2 rd2 tn2 R1 T1 HRO HHD HFL HTN K2 C2 G2 bd hk
            go_wp2_with fail
            try rw [Exit.noGoto_ret]
            refine bodyPost_ret (v := .agg #[.int .i64 kk, .int .i64 fm, .int .i64 aa]) (by simp only [results, Tryz.results61]; go_simp) rfl ?_
            rw [← HQ.out]
            exact ⟨Tn.owns3 HTN2.out (Nat.le_succ _), .inr ⟨kk, fm, aa, q, yy, _, HBD.out, rfl, HRD2.out.st3 (own_ne HFS.out HFS.out.cS) (own_ne HFS.out HFS.out.lS), ro_own HFS.out HRO2.out⟩⟩
        · obtain rfl : x' = w := by omega
          have d1 : decide ((x' : Int) < (x' : Int)) = false := decide_eq_false (by omega)
          have HP2 := Lib.hid (show (y + 1) * x' = y * x' + x' by rw [Nat.add_mul, Nat.one_mul])
          go_wp2
          go_roundg (h - (y + 1))
          case measure => omega
          case rel => exact ⟨y + 1, by omega, rfl, by go_num, by rw [HP2.out]; exact HI.out⟩
    · obtain rfl : y = h := by omega
      have d0 : decide ((y : Int) < (y : Int)) = false := decide_eq_false (by omega)
      have r0 := HI.out.fl.c0
      have r1 := HI.out.fl.c1
      have r2 := HI.out.fl.c2
      have f0 := HI.out.fl.free 0
      have f1 := HI.out.fl.free 1
      have f2 := HI.out.fl.free 2
      have hN : y * w = w * y := Nat.mul_comm _ _
      have I := HI.out
      rw [hN] at I
      have HI2 := Lib.hid I
      clear I hN
      go_wp2
      refine bodyPost_ret (v := okF) (by simp only [results, Tryz.results61, okF]; go_simp) rfl ?_
      rw [← HQ.out]
      exact ⟨Tn.owns3 HI2.out.tn (Nat.le_succ _), .inl ⟨HI2.out.z0, rfl, HI2.out.rd.st3 (own_ne HFS.out HFS.out.cS) (own_ne HFS.out HFS.out.lS), ro_own HFS.out HI2.out.ro⟩⟩

end Go.Proofs.YtcfdippcobkbaaaGreat.Px

/- A raster is filled by (tintype/pnmtext.samples).grey (written by wip/gen/fil1.py). -/
namespace Go.Proofs.YtcfdippcobkbaaaGreat.Px
open Go.ChangeShapes Go.WideShapes Go.ChangeAt Go.RowKit
open Go.Proofs.YtcfdippcobkbaaaGreat.Le Go.Proofs.YtcfdippcobkbaaaGreat.Tk Go.Proofs.YtcfdippcobkbaaaGreat.Sc Go.Proofs.YtcfdippcobkbaaaGreat.Sr Go.Proofs.YtcfdippcobkbaaaGreat.Ph Go.Proofs.YtcfdippcobkbaaaGreat.Ra
set_option linter.unusedVariables false

set_option maxRecDepth 100000 in
set_option maxHeartbeats 8000000 in
theorem fill_grey (S : List Nat) (c l r cb g : Nat) (s : ByteArray) (x : St) (w h : Nat) (k m a : Int) (P : Nat → Nat → PX) (a0 : Nat) (X Y : Nat → World → Prop) (mm : Int) (W : World)
    (fs : FS W S c l r cb g) (hw : w ≤ 16384) (hh : h ≤ 16384) (hr : x.r = 0) (R0 : Rd c l s a0 x W) (O0 : Ro r l cb g w h (rb [] (w * h)) W) (X0 : X 0 W)
    (hX : ∀ i u u', X i u → u.grownBy u' none → X i u') (hY : ∀ i u u', Y i u → Tn u u' [l, g] → X (i + 1) u')
    (KN : ∀ (y x' : Nat) (z : PS) (u : World), y < h → x' < w → fz P a0 (y * w + x') = z → z.f = 0 → Rd c l s z.a (stp x (z.n + (y * w + x'))) u → X (y * w + x') u →
      Calls Tryz.prog 95 #[.agg #[.pointer (some ⟨c, 0, none⟩), .int .i64 mm], .int .i64 x'] u (NP u S c l s (stp x (z.n + (y * w + x'))) (P (y * w + x') z.a) (Y (y * w + x')))) :
    Calls Tryz.prog 61 #[.pointer (some ⟨c, 0, none⟩), .agg #[.int .i64 k, .int .i64 w, .int .i64 h, .int .i64 m, .int .i64 a], .pointer (some ⟨r, 0, none⟩), (.func (.func 95) #[.agg #[.pointer (some ⟨c, 0, none⟩), .int .i64 mm]] #[])] W
      (FP2 W S c l r cb g s x w h (fz P a0 (w * h))) := by
  obtain ⟨Q, hQ⟩ : ∃ Q, FP2 W S c l r cb g s x w h (fz P a0 (w * h)) = Q := ⟨_, rfl⟩
  rw [hQ]
  have HQ := Lib.hid hQ
  have g0 := gb_trans (World.grownBy_alloc W (.cells #[.int .i64 k, .int .i64 w, .int .i64 h, .int .i64 m, .int .i64 a] 70) none) (World.grownBy_alloc _ (.cells #[.int .i64 0, .int .i64 0, .int .i64 0] 34) none)
  have I0 : FI W S c l r cb g s x w h k m a P a0 X 0 ((W.alloc (.cells #[.int .i64 k, .int .i64 w, .int .i64 h, .int .i64 m, .int .i64 a] 70)).alloc (.cells #[.int .i64 0, .int .i64 0, .int .i64 0] 34)) := by
    refine ⟨rfl, ?_, ro_turn O0 (Tn.gb g0 (S := []) (by simp)) (by simp) (by simp) (by simp), hX _ _ _ X0 g0, Tn.gb g0 (by simp), Hc.al blk_at _, ?_⟩
    · show Rd c l s a0 (stp x 0) _
      rw [stp_0]
      exact R0.grown g0
    · rw [← size_alloc W (.cells #[.int .i64 k, .int .i64 w, .int .i64 h, .int .i64 m, .int .i64 a] 70)]
      exact Fl.new _
  have HI0 := Lib.hid I0
  have HFS := Lib.hid fs
  have HX := Lib.hid hX
  have HY := Lib.hid hY
  have HKN := Lib.hid KN
  have HR := Lib.hid hr
  clear hQ g0 I0 fs hX hY KN hr R0 O0 X0
  go_enter Tryz.func61, Tryz.ntmps61
  go_wp2_with fail
  generalize (W.alloc (.cells #[.int .i64 k, .int .i64 w, .int .i64 h, .int .i64 m, .int .i64 a] 70)).alloc (.cells #[.int .i64 0, .int .i64 0, .int .i64 0] 34) = w0 at HI0 ⊢
  have hc2 := HI0.out.hd.c2
  go_wp2_with fail
  clear hc2
  go_loopg [15] h (fun q yv wr => ∃ y : Nat, y ≤ h ∧ q = h - y ∧ yv = .int .i64 y ∧ FI W S c l r cb g s x w h k m a P a0 X (y * w) wr)
  case atStart => exact ⟨0, Nat.zero_le _, rfl, rfl, by rw [Nat.zero_mul]; exact HI0.out⟩
  case round =>
    obtain ⟨y, hyh, rfl, rfl, I⟩ := hrel
    have HI := Lib.hid I
    have hc1 := I.hd.c1
    have hc2 := I.hd.c2
    clear I HI0
    by_cases hy : y < h
    · have d0 : decide ((y : Int) < (h : Int)) = true := decide_eq_true (by omega)
      go_wp2_with fail
      go_loopg [20] w (fun q xv wr2 => ∃ x' : Nat, x' ≤ w ∧ q = w - x' ∧ xv = .int .i64 x' ∧ FI W S c l r cb g s x w h k m a P a0 X (y * w + x') wr2)
      case atStart => exact ⟨0, Nat.zero_le _, rfl, rfl, by rw [Nat.add_zero]; exact HI.out⟩
      case round =>
        clear HI hc1 hc2
        obtain ⟨x', hxw, rfl, rfl, I⟩ := hrel
        have HI := Lib.hid I
        clear I
        by_cases hx : x' < w
        · have d1 : decide ((x' : Int) < (w : Int)) = true := decide_eq_true (by omega)
          obtain ⟨z, hz⟩ : ∃ z, fz P a0 (y * w + x') = z := ⟨_, rfl⟩
          obtain ⟨i, hi⟩ : ∃ i, y * w + x' = i := ⟨_, rfl⟩
          have KK := HKN.out y x' z wr hy hx hz
          rw [hi] at KK hz HI
          have I2 := HI.out
          have z0 := I2.z0
          have rd := I2.rd
          have ro := I2.ro
          rw [hz] at z0 rd ro
          have K1 := KK z0 rd I2.xx
          have hL := fz_len (P := P) (a0 := a0) i I2.z0
          rw [hz] at hL
          have hiN : i < w * h := by
            have := Nat.mul_le_mul_right w (show y + 1 ≤ h by omega)
            rw [Nat.add_mul, Nat.one_mul] at this
            rw [Nat.mul_comm w h]
            omega
          obtain ⟨oo, hoo⟩ : ∃ oo, P i z.a = oo := ⟨_, rfl⟩
          rw [hoo] at K1
          have K2 := Lib.hid K1
          have HZ := Lib.hid hz
          have HOO := Lib.hid hoo
          have HZ0 := Lib.hid z0
          have HRO := Lib.hid ro
          have HTN := Lib.hid I2.tn
          have HHD := Lib.hid I2.hd
          have HFL := Lib.hid I2.fl
          have HL := Lib.hid hL
          have HP := Lib.hid hi
          have HN := Lib.hid hiN
          clear KK I2 z0 rd ro K1 hL hz hoo hi hiN HI
          go_wp2_with fail
          refine K2.out.mono ?_
          rintro e w1 ⟨T1, ⟨of, ov, rfl, R1, Y1⟩ | ⟨kk, fm, aa, q, yy, bd, rfl, R1⟩⟩
          · have gy := (gb_trans (World.grownBy_alloc w1 (.cells #[.int .u8 (oo.r : Int), .int .u8 (oo.g : Int), .int .u8 (oo.b : Int), .int .u8 255] 60) none) (World.grownBy_alloc _ (.cells #[.int .i64 0, .int .i64 0, .int .i64 0] 34) none))
            have NW0 : W.heap.size ∉ S := HFS.out.ne (Nat.le_refl _)
            have NW1 : W.heap.size + 1 ∉ S := HFS.out.ne (Nat.le_succ _)
            have ro2 := ro_turn HRO.out (T1.trans (Tn.gb gy (by simp))) HFS.out.rS HFS.out.bS HFS.out.gS
            have hd2 := (HHD.out.turned T1 NW0).turned (Tn.gb gy (S := []) (by simp)) (by simp)
            have fl2 := (HFL.out.turned T1 NW1).turned (Tn.gb gy (S := []) (by simp)) (by simp)
            have rd2 := R1.grown gy
            have tn2 := (HTN.out.trans (FS.one T1)).trans (Tn.gb gy (by simp))
            have HY2 := Lib.hid (fun u' (t : Tn w1 u' [l, g]) => HY.out i w1 u' Y1 t)
            have HG := Lib.hid gy
            have HRO2 := Lib.hid ro2
            have HHD2 := Lib.hid hd2
            have HFL2 := Lib.hid fl2
            have HRD2 := Lib.hid rd2
            have HTN2 := Lib.hid tn2
            have HOF := Lib.hid of
            have HOV := Lib.hid ov
            have C2 : Co w1.heap.size oo.r oo.g oo.b 255 ((w1.alloc (.cells #[.int .u8 (oo.r : Int), .int .u8 (oo.g : Int), .int .u8 (oo.b : Int), .int .u8 255] 60)).alloc (.cells #[.int .i64 0, .int .i64 0, .int .i64 0] 34)) := blk_al blk_at _
            have HC2 := Lib.hid C2
            clear gy ro2 hd2 fl2 rd2 tn2 of ov R1 Y1 T1 HRO HHD HFL HTN K2 C2
            simp only [okF]
            go_wp2_with fail
            generalize (w1.alloc (.cells #[.int .u8 (oo.r : Int), .int .u8 (oo.g : Int), .int .u8 (oo.b : Int), .int .u8 255] 60)).alloc (.cells #[.int .i64 0, .int .i64 0, .int .i64 0] 34) = w2 at HG HRO2 HHD2 HFL2 HRD2 HTN2 HC2 ⊢
            have hrr : (stp (stp x (z.n + i)) oo.n).r = 0 := HR.out
            by_cases hk : (stp (stp x (z.n + i)) oo.n).st + 1 ≤ (stp (stp x (z.n + i)) oo.n).s
            · refine (set_pix r l cb g w h x' y i z.l oo.r oo.g oo.b _ w2 HOV.out HL.out HRO2.out HRD2.out.led HRD2.out.ok hrr hk hx hy hw hh HP.out).mono ?_
              rintro e w3 ⟨rfl, ⟨ro3, ld3⟩, T3⟩
              have rd3 := rd_next HRD2.out T3 (by simp; exact ⟨HRD2.out.so.bl, HFS.out.cg⟩) ld3 (stp1_ok HRD2.out.ok hrr hk)
              rw [stp_stp, stp_stp] at rd3
              have N0 : W.heap.size ∉ [l, g] := by have h1 := HFS.out.sl l HFS.out.lS; have h2 := HFS.out.glt; simp; omega
              have N1 : W.heap.size + 1 ∉ [l, g] := by have h1 := HFS.out.sl l HFS.out.lS; have h2 := HFS.out.glt; simp; omega
              have I3 := Lib.hid (FI.step HZ.out HOO.out HZ0.out HOF.out rd3 ro3 (HY2.out w3 ((Tn.gb HG.out (by simp)).trans T3)) (HTN2.out.trans (HFS.out.two T3)) (HHD2.out.turned T3 N0) (HFL2.out.turned T3 N1))
              have HP2 := Lib.hid (show y * w + (x' + 1) = i + 1 by have := HP.out; omega)
              clear ro3 ld3 T3 rd3 hk
              go_wp2
              go_roundg (w - (x' + 1))
              case measure => omega
              case rel => exact ⟨x' + 1, by omega, rfl, by go_num, by rw [HP2.out]; exact I3.out⟩
            · have hk' : (stp (stp x (z.n + i)) oo.n).s < (stp (stp x (z.n + i)) oo.n).st + 1 := by omega
              refine (set_nix r l cb g w h x' y i _ oo.r oo.g oo.b _ w2 HRO2.out HRD2.out.led HRD2.out.ok hrr hk' hx hy hw hh HP.out).mono ?_
              rintro e w3 ⟨rfl, ⟨ro3, ld3⟩, T3⟩
              have rd3 := rd_next HRD2.out T3 (by simp; exact ⟨HRD2.out.so.bl, HFS.out.cg⟩) ld3 (spent_ok HRD2.out.ok hrr hk')
              rw [stp_spent, stp_spent] at rd3
              have hbd := fz_set (N := w * h) HZ.out HOO.out HZ0.out HOF.out HN.out (x := x) (by rw [stp_stp, stp_st, stp_s] at hk'; exact hk')
              have N1 : W.heap.size + 1 ∉ [l, g] := by have h1 := HFS.out.sl l HFS.out.lS; have h2 := HFS.out.glt; simp; omega
              have KA := Lib.hid (at_rd c l s _ _ w3 rd3)
              have KF := Lib.hid (fun u => xfault_calls 4 (oo.a : Int) u)
              have fl3 := HFL2.out.turned T3 N1
              have hap := rd3.so.pt
              have HRO3 := Lib.hid ro3
              have HRD3 := Lib.hid rd3
              have HT3 := Lib.hid (HTN2.out.trans (HFS.out.two T3))
              have HFL3 := Lib.hid fl3
              have HBD := Lib.hid hbd
              clear ro3 ld3 T3 rd3 hk hk' hbd fl3
              go_wp2_with fail
              refine KA.out.mono ?_
              rintro e w' ⟨rfl, rfl⟩
              go_wp2_with fail
              refine (KF.out _).mono ?_
              rintro e w4 ⟨rfl, g4⟩
              have F4 := HFL3.out.turned (Tn.gb g4 (S := []) (by simp)) (by simp)
              have r0 := F4.c0
              have r1 := F4.c1
              have r2 := F4.c2
              have f0 := F4.free 0
              have f1 := F4.free 1
              have f2 := F4.free 2
              have HRO4 := Lib.hid (ro_turn HRO3.out (Tn.gb g4 (S := []) (by simp)) (by simp) (by simp) (by simp))
              have HRD4 := Lib.hid (HRD3.out.grown g4)
              have HT4 := Lib.hid (HT3.out.trans (Tn.gb g4 (by simp)))
              clear F4 g4
              go_wp2
              try rw [Exit.noGoto_ret]
              refine bodyPost_ret (v := .agg #[.int .i64 4, .int .i64 3, .int .i64 oo.a]) (by simp only [results, Tryz.results61]; go_simp) rfl ?_
              rw [← HQ.out]
              exact ⟨Tn.owns3 HT4.out (Nat.le_succ _), .inr ⟨4, 3, oo.a, oo.a, _, _, ⟨hap, .inr ⟨HBD.out, rfl, rfl, rfl, rfl⟩⟩, rfl, HRD4.out.st3 (own_ne HFS.out HFS.out.cS) (own_ne HFS.out HFS.out.lS), ro_own HFS.out HRO4.out⟩⟩
          · have hk := bd.kne
            have d2 : (kk != 0) = true := by rw [bne_iff_ne]; exact hk
            have gy := (gb_trans (World.grownBy_alloc w1 (.cells #[.int .u8 0, .int .u8 0, .int .u8 0, .int .u8 0] 60) none) (World.grownBy_alloc _ (.cells #[.int .i64 kk, .int .i64 fm, .int .i64 aa] 34) none))
            have NW0 : W.heap.size ∉ S := HFS.out.ne (Nat.le_refl _)
            have NW1 : W.heap.size + 1 ∉ S := HFS.out.ne (Nat.le_succ _)
            have ro2 := ro_turn HRO.out (T1.trans (Tn.gb gy (by simp))) HFS.out.rS HFS.out.bS HFS.out.gS
            have hd2 := (HHD.out.turned T1 NW0).turned (Tn.gb gy (S := []) (by simp)) (by simp)
            have fl2 := (HFL.out.turned T1 NW1).turned (Tn.gb gy (S := []) (by simp)) (by simp)
            have rd2 := R1.grown gy
            have tn2 := (HTN.out.trans (FS.one T1)).trans (Tn.gb gy (by simp))
            have C2 : Co w1.heap.size 0 0 0 0 ((w1.alloc (.cells #[.int .u8 0, .int .u8 0, .int .u8 0, .int .u8 0] 60)).alloc (.cells #[.int .i64 kk, .int .i64 fm, .int .i64 aa] 34)) := blk_al blk_at _
            have G2 : Fl (w1.heap.size + 1) kk fm aa ((w1.alloc (.cells #[.int .u8 0, .int .u8 0, .int .u8 0, .int .u8 0] 60)).alloc (.cells #[.int .i64 kk, .int .i64 fm, .int .i64 aa] 34)) := by
              rw [← size_alloc w1 (.cells #[.int .u8 0, .int .u8 0, .int .u8 0, .int .u8 0] 60)]
              exact blk_at
            have HBD := Lib.hid (fz_bad HZ.out HOO.out HZ0.out HN.out bd)
            have q0 := G2.c0
            have q1 := G2.c1
            have q2 := G2.c2
            have r0 := fl2.c0
            have r1 := fl2.c1
            have r2 := fl2.c2
            have f0 := fl2.free 0
            have f1 := fl2.free 1
            have f2 := fl2.free 2
            have HRO2 := Lib.hid ro2
            have HRD2 := Lib.hid rd2
            have HTN2 := Lib.hid tn2
            clear gy ro2 hd2 fl2 rd2 tn2 R1 T1 HRO HHD HFL HTN K2 C2 G2 bd hk
            go_wp2_with fail
            try rw [Exit.noGoto_ret]
            refine bodyPost_ret (v := .agg #[.int .i64 kk, .int .i64 fm, .int .i64 aa]) (by simp only [results, Tryz.results61]; go_simp) rfl ?_
            rw [← HQ.out]
            exact ⟨Tn.owns3 HTN2.out (Nat.le_succ _), .inr ⟨kk, fm, aa, q, yy, _, HBD.out, rfl, HRD2.out.st3 (own_ne HFS.out HFS.out.cS) (own_ne HFS.out HFS.out.lS), ro_own HFS.out HRO2.out⟩⟩
        · obtain rfl : x' = w := by omega
          have d1 : decide ((x' : Int) < (x' : Int)) = false := decide_eq_false (by omega)
          have HP2 := Lib.hid (show (y + 1) * x' = y * x' + x' by rw [Nat.add_mul, Nat.one_mul])
          go_wp2
          go_roundg (h - (y + 1))
          case measure => omega
          case rel => exact ⟨y + 1, by omega, rfl, by go_num, by rw [HP2.out]; exact HI.out⟩
    · obtain rfl : y = h := by omega
      have d0 : decide ((y : Int) < (y : Int)) = false := decide_eq_false (by omega)
      have r0 := HI.out.fl.c0
      have r1 := HI.out.fl.c1
      have r2 := HI.out.fl.c2
      have f0 := HI.out.fl.free 0
      have f1 := HI.out.fl.free 1
      have f2 := HI.out.fl.free 2
      have hN : y * w = w * y := Nat.mul_comm _ _
      have I := HI.out
      rw [hN] at I
      have HI2 := Lib.hid I
      clear I hN
      go_wp2
      refine bodyPost_ret (v := okF) (by simp only [results, Tryz.results61, okF]; go_simp) rfl ?_
      rw [← HQ.out]
      exact ⟨Tn.owns3 HI2.out.tn (Nat.le_succ _), .inl ⟨HI2.out.z0, rfl, HI2.out.rd.st3 (own_ne HFS.out HFS.out.cS) (own_ne HFS.out HFS.out.lS), ro_own HFS.out HI2.out.ro⟩⟩

end Go.Proofs.YtcfdippcobkbaaaGreat.Px

/- A raster is filled by (tintype/pnmtext.samples).color (written by wip/gen/fil1.py). -/
namespace Go.Proofs.YtcfdippcobkbaaaGreat.Px
open Go.ChangeShapes Go.WideShapes Go.ChangeAt Go.RowKit
open Go.Proofs.YtcfdippcobkbaaaGreat.Le Go.Proofs.YtcfdippcobkbaaaGreat.Tk Go.Proofs.YtcfdippcobkbaaaGreat.Sc Go.Proofs.YtcfdippcobkbaaaGreat.Sr Go.Proofs.YtcfdippcobkbaaaGreat.Ph Go.Proofs.YtcfdippcobkbaaaGreat.Ra
set_option linter.unusedVariables false

set_option maxRecDepth 100000 in
set_option maxHeartbeats 8000000 in
theorem fill_color (S : List Nat) (c l r cb g : Nat) (s : ByteArray) (x : St) (w h : Nat) (k m a : Int) (P : Nat → Nat → PX) (a0 : Nat) (X Y : Nat → World → Prop) (mm : Int) (W : World)
    (fs : FS W S c l r cb g) (hw : w ≤ 16384) (hh : h ≤ 16384) (hr : x.r = 0) (R0 : Rd c l s a0 x W) (O0 : Ro r l cb g w h (rb [] (w * h)) W) (X0 : X 0 W)
    (hX : ∀ i u u', X i u → u.grownBy u' none → X i u') (hY : ∀ i u u', Y i u → Tn u u' [l, g] → X (i + 1) u')
    (KN : ∀ (y x' : Nat) (z : PS) (u : World), y < h → x' < w → fz P a0 (y * w + x') = z → z.f = 0 → Rd c l s z.a (stp x (z.n + (y * w + x'))) u → X (y * w + x') u →
      Calls Tryz.prog 94 #[.agg #[.pointer (some ⟨c, 0, none⟩), .int .i64 mm], .int .i64 x'] u (NP u S c l s (stp x (z.n + (y * w + x'))) (P (y * w + x') z.a) (Y (y * w + x')))) :
    Calls Tryz.prog 61 #[.pointer (some ⟨c, 0, none⟩), .agg #[.int .i64 k, .int .i64 w, .int .i64 h, .int .i64 m, .int .i64 a], .pointer (some ⟨r, 0, none⟩), (.func (.func 94) #[.agg #[.pointer (some ⟨c, 0, none⟩), .int .i64 mm]] #[])] W
      (FP2 W S c l r cb g s x w h (fz P a0 (w * h))) := by
  obtain ⟨Q, hQ⟩ : ∃ Q, FP2 W S c l r cb g s x w h (fz P a0 (w * h)) = Q := ⟨_, rfl⟩
  rw [hQ]
  have HQ := Lib.hid hQ
  have g0 := gb_trans (World.grownBy_alloc W (.cells #[.int .i64 k, .int .i64 w, .int .i64 h, .int .i64 m, .int .i64 a] 70) none) (World.grownBy_alloc _ (.cells #[.int .i64 0, .int .i64 0, .int .i64 0] 34) none)
  have I0 : FI W S c l r cb g s x w h k m a P a0 X 0 ((W.alloc (.cells #[.int .i64 k, .int .i64 w, .int .i64 h, .int .i64 m, .int .i64 a] 70)).alloc (.cells #[.int .i64 0, .int .i64 0, .int .i64 0] 34)) := by
    refine ⟨rfl, ?_, ro_turn O0 (Tn.gb g0 (S := []) (by simp)) (by simp) (by simp) (by simp), hX _ _ _ X0 g0, Tn.gb g0 (by simp), Hc.al blk_at _, ?_⟩
    · show Rd c l s a0 (stp x 0) _
      rw [stp_0]
      exact R0.grown g0
    · rw [← size_alloc W (.cells #[.int .i64 k, .int .i64 w, .int .i64 h, .int .i64 m, .int .i64 a] 70)]
      exact Fl.new _
  have HI0 := Lib.hid I0
  have HFS := Lib.hid fs
  have HX := Lib.hid hX
  have HY := Lib.hid hY
  have HKN := Lib.hid KN
  have HR := Lib.hid hr
  clear hQ g0 I0 fs hX hY KN hr R0 O0 X0
  go_enter Tryz.func61, Tryz.ntmps61
  go_wp2_with fail
  generalize (W.alloc (.cells #[.int .i64 k, .int .i64 w, .int .i64 h, .int .i64 m, .int .i64 a] 70)).alloc (.cells #[.int .i64 0, .int .i64 0, .int .i64 0] 34) = w0 at HI0 ⊢
  have hc2 := HI0.out.hd.c2
  go_wp2_with fail
  clear hc2
  go_loopg [15] h (fun q yv wr => ∃ y : Nat, y ≤ h ∧ q = h - y ∧ yv = .int .i64 y ∧ FI W S c l r cb g s x w h k m a P a0 X (y * w) wr)
  case atStart => exact ⟨0, Nat.zero_le _, rfl, rfl, by rw [Nat.zero_mul]; exact HI0.out⟩
  case round =>
    obtain ⟨y, hyh, rfl, rfl, I⟩ := hrel
    have HI := Lib.hid I
    have hc1 := I.hd.c1
    have hc2 := I.hd.c2
    clear I HI0
    by_cases hy : y < h
    · have d0 : decide ((y : Int) < (h : Int)) = true := decide_eq_true (by omega)
      go_wp2_with fail
      go_loopg [20] w (fun q xv wr2 => ∃ x' : Nat, x' ≤ w ∧ q = w - x' ∧ xv = .int .i64 x' ∧ FI W S c l r cb g s x w h k m a P a0 X (y * w + x') wr2)
      case atStart => exact ⟨0, Nat.zero_le _, rfl, rfl, by rw [Nat.add_zero]; exact HI.out⟩
      case round =>
        clear HI hc1 hc2
        obtain ⟨x', hxw, rfl, rfl, I⟩ := hrel
        have HI := Lib.hid I
        clear I
        by_cases hx : x' < w
        · have d1 : decide ((x' : Int) < (w : Int)) = true := decide_eq_true (by omega)
          obtain ⟨z, hz⟩ : ∃ z, fz P a0 (y * w + x') = z := ⟨_, rfl⟩
          obtain ⟨i, hi⟩ : ∃ i, y * w + x' = i := ⟨_, rfl⟩
          have KK := HKN.out y x' z wr hy hx hz
          rw [hi] at KK hz HI
          have I2 := HI.out
          have z0 := I2.z0
          have rd := I2.rd
          have ro := I2.ro
          rw [hz] at z0 rd ro
          have K1 := KK z0 rd I2.xx
          have hL := fz_len (P := P) (a0 := a0) i I2.z0
          rw [hz] at hL
          have hiN : i < w * h := by
            have := Nat.mul_le_mul_right w (show y + 1 ≤ h by omega)
            rw [Nat.add_mul, Nat.one_mul] at this
            rw [Nat.mul_comm w h]
            omega
          obtain ⟨oo, hoo⟩ : ∃ oo, P i z.a = oo := ⟨_, rfl⟩
          rw [hoo] at K1
          have K2 := Lib.hid K1
          have HZ := Lib.hid hz
          have HOO := Lib.hid hoo
          have HZ0 := Lib.hid z0
          have HRO := Lib.hid ro
          have HTN := Lib.hid I2.tn
          have HHD := Lib.hid I2.hd
          have HFL := Lib.hid I2.fl
          have HL := Lib.hid hL
          have HP := Lib.hid hi
          have HN := Lib.hid hiN
          clear KK I2 z0 rd ro K1 hL hz hoo hi hiN HI
          go_wp2_with fail
          refine K2.out.mono ?_
          rintro e w1 ⟨T1, ⟨of, ov, rfl, R1, Y1⟩ | ⟨kk, fm, aa, q, yy, bd, rfl, R1⟩⟩
          · have gy := (gb_trans (World.grownBy_alloc w1 (.cells #[.int .u8 (oo.r : Int), .int .u8 (oo.g : Int), .int .u8 (oo.b : Int), .int .u8 255] 60) none) (World.grownBy_alloc _ (.cells #[.int .i64 0, .int .i64 0, .int .i64 0] 34) none))
            have NW0 : W.heap.size ∉ S := HFS.out.ne (Nat.le_refl _)
            have NW1 : W.heap.size + 1 ∉ S := HFS.out.ne (Nat.le_succ _)
            have ro2 := ro_turn HRO.out (T1.trans (Tn.gb gy (by simp))) HFS.out.rS HFS.out.bS HFS.out.gS
            have hd2 := (HHD.out.turned T1 NW0).turned (Tn.gb gy (S := []) (by simp)) (by simp)
            have fl2 := (HFL.out.turned T1 NW1).turned (Tn.gb gy (S := []) (by simp)) (by simp)
            have rd2 := R1.grown gy
            have tn2 := (HTN.out.trans (FS.one T1)).trans (Tn.gb gy (by simp))
            have HY2 := Lib.hid (fun u' (t : Tn w1 u' [l, g]) => HY.out i w1 u' Y1 t)
            have HG := Lib.hid gy
            have HRO2 := Lib.hid ro2
            have HHD2 := Lib.hid hd2
            have HFL2 := Lib.hid fl2
            have HRD2 := Lib.hid rd2
            have HTN2 := Lib.hid tn2
            have HOF := Lib.hid of
            have HOV := Lib.hid ov
            have C2 : Co w1.heap.size oo.r oo.g oo.b 255 ((w1.alloc (.cells #[.int .u8 (oo.r : Int), .int .u8 (oo.g : Int), .int .u8 (oo.b : Int), .int .u8 255] 60)).alloc (.cells #[.int .i64 0, .int .i64 0, .int .i64 0] 34)) := blk_al blk_at _
            have HC2 := Lib.hid C2
            clear gy ro2 hd2 fl2 rd2 tn2 of ov R1 Y1 T1 HRO HHD HFL HTN K2 C2
            simp only [okF]
            go_wp2_with fail
            generalize (w1.alloc (.cells #[.int .u8 (oo.r : Int), .int .u8 (oo.g : Int), .int .u8 (oo.b : Int), .int .u8 255] 60)).alloc (.cells #[.int .i64 0, .int .i64 0, .int .i64 0] 34) = w2 at HG HRO2 HHD2 HFL2 HRD2 HTN2 HC2 ⊢
            have hrr : (stp (stp x (z.n + i)) oo.n).r = 0 := HR.out
            by_cases hk : (stp (stp x (z.n + i)) oo.n).st + 1 ≤ (stp (stp x (z.n + i)) oo.n).s
            · refine (set_pix r l cb g w h x' y i z.l oo.r oo.g oo.b _ w2 HOV.out HL.out HRO2.out HRD2.out.led HRD2.out.ok hrr hk hx hy hw hh HP.out).mono ?_
              rintro e w3 ⟨rfl, ⟨ro3, ld3⟩, T3⟩
              have rd3 := rd_next HRD2.out T3 (by simp; exact ⟨HRD2.out.so.bl, HFS.out.cg⟩) ld3 (stp1_ok HRD2.out.ok hrr hk)
              rw [stp_stp, stp_stp] at rd3
              have N0 : W.heap.size ∉ [l, g] := by have h1 := HFS.out.sl l HFS.out.lS; have h2 := HFS.out.glt; simp; omega
              have N1 : W.heap.size + 1 ∉ [l, g] := by have h1 := HFS.out.sl l HFS.out.lS; have h2 := HFS.out.glt; simp; omega
              have I3 := Lib.hid (FI.step HZ.out HOO.out HZ0.out HOF.out rd3 ro3 (HY2.out w3 ((Tn.gb HG.out (by simp)).trans T3)) (HTN2.out.trans (HFS.out.two T3)) (HHD2.out.turned T3 N0) (HFL2.out.turned T3 N1))
              have HP2 := Lib.hid (show y * w + (x' + 1) = i + 1 by have := HP.out; omega)
              clear ro3 ld3 T3 rd3 hk
              go_wp2
              go_roundg (w - (x' + 1))
              case measure => omega
              case rel => exact ⟨x' + 1, by omega, rfl, by go_num, by rw [HP2.out]; exact I3.out⟩
            · have hk' : (stp (stp x (z.n + i)) oo.n).s < (stp (stp x (z.n + i)) oo.n).st + 1 := by omega
              refine (set_nix r l cb g w h x' y i _ oo.r oo.g oo.b _ w2 HRO2.out HRD2.out.led HRD2.out.ok hrr hk' hx hy hw hh HP.out).mono ?_
              rintro e w3 ⟨rfl, ⟨ro3, ld3⟩, T3⟩
              have rd3 := rd_next HRD2.out T3 (by simp; exact ⟨HRD2.out.so.bl, HFS.out.cg⟩) ld3 (spent_ok HRD2.out.ok hrr hk')
              rw [stp_spent, stp_spent] at rd3
              have hbd := fz_set (N := w * h) HZ.out HOO.out HZ0.out HOF.out HN.out (x := x) (by rw [stp_stp, stp_st, stp_s] at hk'; exact hk')
              have N1 : W.heap.size + 1 ∉ [l, g] := by have h1 := HFS.out.sl l HFS.out.lS; have h2 := HFS.out.glt; simp; omega
              have KA := Lib.hid (at_rd c l s _ _ w3 rd3)
              have KF := Lib.hid (fun u => xfault_calls 4 (oo.a : Int) u)
              have fl3 := HFL2.out.turned T3 N1
              have hap := rd3.so.pt
              have HRO3 := Lib.hid ro3
              have HRD3 := Lib.hid rd3
              have HT3 := Lib.hid (HTN2.out.trans (HFS.out.two T3))
              have HFL3 := Lib.hid fl3
              have HBD := Lib.hid hbd
              clear ro3 ld3 T3 rd3 hk hk' hbd fl3
              go_wp2_with fail
              refine KA.out.mono ?_
              rintro e w' ⟨rfl, rfl⟩
              go_wp2_with fail
              refine (KF.out _).mono ?_
              rintro e w4 ⟨rfl, g4⟩
              have F4 := HFL3.out.turned (Tn.gb g4 (S := []) (by simp)) (by simp)
              have r0 := F4.c0
              have r1 := F4.c1
              have r2 := F4.c2
              have f0 := F4.free 0
              have f1 := F4.free 1
              have f2 := F4.free 2
              have HRO4 := Lib.hid (ro_turn HRO3.out (Tn.gb g4 (S := []) (by simp)) (by simp) (by simp) (by simp))
              have HRD4 := Lib.hid (HRD3.out.grown g4)
              have HT4 := Lib.hid (HT3.out.trans (Tn.gb g4 (by simp)))
              clear F4 g4
              go_wp2
              try rw [Exit.noGoto_ret]
              refine bodyPost_ret (v := .agg #[.int .i64 4, .int .i64 3, .int .i64 oo.a]) (by simp only [results, Tryz.results61]; go_simp) rfl ?_
              rw [← HQ.out]
              exact ⟨Tn.owns3 HT4.out (Nat.le_succ _), .inr ⟨4, 3, oo.a, oo.a, _, _, ⟨hap, .inr ⟨HBD.out, rfl, rfl, rfl, rfl⟩⟩, rfl, HRD4.out.st3 (own_ne HFS.out HFS.out.cS) (own_ne HFS.out HFS.out.lS), ro_own HFS.out HRO4.out⟩⟩
          · have hk := bd.kne
            have d2 : (kk != 0) = true := by rw [bne_iff_ne]; exact hk
            have gy := (gb_trans (World.grownBy_alloc w1 (.cells #[.int .u8 0, .int .u8 0, .int .u8 0, .int .u8 0] 60) none) (World.grownBy_alloc _ (.cells #[.int .i64 kk, .int .i64 fm, .int .i64 aa] 34) none))
            have NW0 : W.heap.size ∉ S := HFS.out.ne (Nat.le_refl _)
            have NW1 : W.heap.size + 1 ∉ S := HFS.out.ne (Nat.le_succ _)
            have ro2 := ro_turn HRO.out (T1.trans (Tn.gb gy (by simp))) HFS.out.rS HFS.out.bS HFS.out.gS
            have hd2 := (HHD.out.turned T1 NW0).turned (Tn.gb gy (S := []) (by simp)) (by simp)
            have fl2 := (HFL.out.turned T1 NW1).turned (Tn.gb gy (S := []) (by simp)) (by simp)
            have rd2 := R1.grown gy
            have tn2 := (HTN.out.trans (FS.one T1)).trans (Tn.gb gy (by simp))
            have C2 : Co w1.heap.size 0 0 0 0 ((w1.alloc (.cells #[.int .u8 0, .int .u8 0, .int .u8 0, .int .u8 0] 60)).alloc (.cells #[.int .i64 kk, .int .i64 fm, .int .i64 aa] 34)) := blk_al blk_at _
            have G2 : Fl (w1.heap.size + 1) kk fm aa ((w1.alloc (.cells #[.int .u8 0, .int .u8 0, .int .u8 0, .int .u8 0] 60)).alloc (.cells #[.int .i64 kk, .int .i64 fm, .int .i64 aa] 34)) := by
              rw [← size_alloc w1 (.cells #[.int .u8 0, .int .u8 0, .int .u8 0, .int .u8 0] 60)]
              exact blk_at
            have HBD := Lib.hid (fz_bad HZ.out HOO.out HZ0.out HN.out bd)
            have q0 := G2.c0
            have q1 := G2.c1
            have q2 := G2.c2
            have r0 := fl2.c0
            have r1 := fl2.c1
            have r2 := fl2.c2
            have f0 := fl2.free 0
            have f1 := fl2.free 1
            have f2 := fl2.free 2
            have HRO2 := Lib.hid ro2
            have HRD2 := Lib.hid rd2
            have HTN2 := Lib.hid tn2
            clear gy ro2 hd2 fl2 rd2 tn2 R1 T1 HRO HHD HFL HTN K2 C2 G2 bd hk
            go_wp2_with fail
            try rw [Exit.noGoto_ret]
            refine bodyPost_ret (v := .agg #[.int .i64 kk, .int .i64 fm, .int .i64 aa]) (by simp only [results, Tryz.results61]; go_simp) rfl ?_
            rw [← HQ.out]
            exact ⟨Tn.owns3 HTN2.out (Nat.le_succ _), .inr ⟨kk, fm, aa, q, yy, _, HBD.out, rfl, HRD2.out.st3 (own_ne HFS.out HFS.out.cS) (own_ne HFS.out HFS.out.lS), ro_own HFS.out HRO2.out⟩⟩
        · obtain rfl : x' = w := by omega
          have d1 : decide ((x' : Int) < (x' : Int)) = false := decide_eq_false (by omega)
          have HP2 := Lib.hid (show (y + 1) * x' = y * x' + x' by rw [Nat.add_mul, Nat.one_mul])
          go_wp2
          go_roundg (h - (y + 1))
          case measure => omega
          case rel => exact ⟨y + 1, by omega, rfl, by go_num, by rw [HP2.out]; exact HI.out⟩
    · obtain rfl : y = h := by omega
      have d0 : decide ((y : Int) < (y : Int)) = false := decide_eq_false (by omega)
      have r0 := HI.out.fl.c0
      have r1 := HI.out.fl.c1
      have r2 := HI.out.fl.c2
      have f0 := HI.out.fl.free 0
      have f1 := HI.out.fl.free 1
      have f2 := HI.out.fl.free 2
      have hN : y * w = w * y := Nat.mul_comm _ _
      have I := HI.out
      rw [hN] at I
      have HI2 := Lib.hid I
      clear I hN
      go_wp2
      refine bodyPost_ret (v := okF) (by simp only [results, Tryz.results61, okF]; go_simp) rfl ?_
      rw [← HQ.out]
      exact ⟨Tn.owns3 HI2.out.tn (Nat.le_succ _), .inl ⟨HI2.out.z0, rfl, HI2.out.rd.st3 (own_ne HFS.out HFS.out.cS) (own_ne HFS.out HFS.out.lS), ro_own HFS.out HI2.out.ro⟩⟩

end Go.Proofs.YtcfdippcobkbaaaGreat.Px

/- Package pnmtext: Read, walked: the kinds' readers; what a filling leaves to its caller (written by wip/gen/fil4.py). -/
namespace Go.Proofs.YtcfdippcobkbaaaGreat.Px
open Go.ChangeShapes Go.WideShapes Go.ChangeAt Go.RowKit
open Go.Proofs.YtcfdippcobkbaaaGreat.Le Go.Proofs.YtcfdippcobkbaaaGreat.Tk Go.Proofs.YtcfdippcobkbaaaGreat.Sc Go.Proofs.YtcfdippcobkbaaaGreat.Sr Go.Proofs.YtcfdippcobkbaaaGreat.Ph Go.Proofs.YtcfdippcobkbaaaGreat.Ra
set_option linter.unusedVariables false

theorem fz_pxs (s : ByteArray) (k m a0 : Nat) : ∀ i, fz (fun _ a => pxV s k m a) a0 i = pxs s k m a0 i
  | 0 => rfl
  | i + 1 => by
    rw [fz_succ, fz_pxs s k m a0 i]
    rfl
theorem rd_turn {c l : Nat} {s : ByteArray} {p : Nat} {x : St} {w w' : World} {S : List Nat} (h : Rd c l s p x w) (t : Tn w w' S) (hc : c ∉ S) (hl : l ∉ S) : Rd c l s p x w' := ⟨h.so.turned t hc, h.led.turned t hl, h.ok⟩
theorem FS.up {W u : World} {S : List Nat} {c l r cb g : Nat} (h : FS W S c l r cb g) (hs : W.heap.size ≤ u.heap.size) : FS u S c l r cb g :=
  ⟨fun k hk => Nat.lt_of_lt_of_le (h.sl k hk) hs, h.cS, h.lS, h.rS, h.bS, h.gS, h.rg, h.bg, Nat.lt_of_lt_of_le h.glt hs, Nat.lt_of_lt_of_le h.rlt hs, Nat.lt_of_lt_of_le h.blt hs⟩
/-- A filling's end, handed up by a caller that has a block of its own for it. -/
theorem FP2.end {W W2 w1 : World} {S : List Nat} {c l r cb g : Nat} {s : ByteArray} {x : St} {w h : Nat} {z : PS} {e : Ending} (fs : FS W S c l r cb g) (H : FP2 W2 S c l r cb g s x w h z e w1) (t : Tn W W2 (g :: S)) :
    ∃ k gm a : Int, e = .returned (.agg #[.int .i64 k, .int .i64 gm, .int .i64 a]) ∧ ∀ (b : Nat) (u : World), W.heap.size ≤ b → Tn w1 u [b] → FP2 W S c l r cb g s x w h z (.returned (.agg #[.int .i64 k, .int .i64 gm, .int .i64 a])) u := by
  obtain ⟨T, H⟩ := H
  have key : ∀ (b : Nat) (u : World), W.heap.size ≤ b → Tn w1 u [b] → Tn W u (g :: S) := fun b u hb tu => (t.trans T).over tu (fun k hk => by rw [List.mem_singleton] at hk; subst hk; exact .inl hb)
  have nb : ∀ b k, W.heap.size ≤ b → k < W.heap.size → k ∉ [b] := fun b k hb hk => by simp; omega
  rcases H with ⟨h0, he, R, O⟩ | ⟨k, gm, a, q, y, R0, bd, he, R, O⟩
  · exact ⟨0, 0, 0, he, fun b u hb tu => ⟨key b u hb tu, .inl ⟨h0, rfl, rd_turn R tu (nb b c hb (fs.sl c fs.cS)) (nb b l hb (fs.sl l fs.lS)), ro_turn O tu (nb b r hb fs.rlt) (nb b cb hb fs.blt) (nb b g hb fs.glt)⟩⟩⟩
  · exact ⟨k, gm, a, he, fun b u hb tu => ⟨key b u hb tu, .inr ⟨k, gm, a, q, y, R0, bd, rfl, rd_turn R tu (nb b c hb (fs.sl c fs.cS)) (nb b l hb (fs.sl l fs.lS)), ro_turn O tu (nb b r hb fs.rlt) (nb b cb hb fs.blt) (nb b g hb fs.glt)⟩⟩⟩

theorem tpixel1_calls (c : Nat) (m : Int) (W : World) : Calls Tryz.prog 62 #[.agg #[.pointer (some ⟨c, 0, none⟩), .int .i64 m], .int .i64 1] W
    fun e w' => e = .returned (.func (.func 92) #[.agg #[.pointer (some ⟨c, 0, none⟩), .int .i64 m]] #[]) ∧ W.grownBy w' none := by
  have hmf : ∀ (fn : Fn) (first cap : Array Value) (w : World), (Instr.makeFunc fn first cap).run Tryz.prog w = .ok (.func fn first cap) w := fun _ _ _ _ => rfl
  have KB := Lib.hid (fun u => xbitmap_calls 1 u)
  have KC := Lib.hid (fun u => colors_calls 1 u)
  rw [show orB 1 4 1 = true from by decide] at KB
  rw [show orB 3 6 1 = false from by decide] at KC
  go_enter Tryz.func62, Tryz.ntmps62
  go_wp2_with fail
  refine (KB.out _).mono ?_
  rintro e w' ⟨rfl, rfl⟩
  go_wp2
  go_ret
  exact ⟨rfl, World.grownBy_alloc _ _ _⟩

set_option maxRecDepth 100000 in
set_option maxHeartbeats 4000000 in
theorem tread1_calls (c l r cb g : Nat) (s : ByteArray) (x : St) (w h m a0 : Nat) (a : Int) (W : World)
    (fs : FS W [c, l] c l r cb g) (hw : w ≤ 16384) (hh : h ≤ 16384) (hm : 1 ≤ m ∧ m ≤ 65535) (hr : x.r = 0) (R0 : Rd c l s a0 x W) (O0 : Ro r l cb g w h (rb [] (w * h)) W) :
    Calls Tryz.prog 38 #[.pointer (some ⟨c, 0, none⟩), .agg #[.int .i64 1, .int .i64 w, .int .i64 h, .int .i64 m, .int .i64 a], .pointer (some ⟨r, 0, none⟩)] W
      (FP2 W [c, l] c l r cb g s x w h (pxs s 1 m a0 (w * h))) := by
  obtain ⟨Q, hQ⟩ : ∃ Q, FP2 W [c, l] c l r cb g s x w h (pxs s 1 m a0 (w * h)) = Q := ⟨_, rfl⟩
  have KF : ∀ u, W.grownBy u none → Calls Tryz.prog 61 #[.pointer (some ⟨c, 0, none⟩), .agg #[.int .i64 1, .int .i64 w, .int .i64 h, .int .i64 m, .int .i64 a], .pointer (some ⟨r, 0, none⟩), (.func (.func 92) #[.agg #[.pointer (some ⟨c, 0, none⟩), .int .i64 (m : Int)]] #[])] u
      (fun e w' => ∃ k gm a : Int, e = .returned (.agg #[.int .i64 k, .int .i64 gm, .int .i64 a]) ∧ Tn u w' [g, c, l] ∧ ∀ (b : Nat) (v : World), W.heap.size ≤ b → Tn w' v [b] → Q (.returned (.agg #[.int .i64 k, .int .i64 gm, .int .i64 a])) v) := by
    intro u gu
    have K := fill_ink [c, l] c l r cb g s x w h 1 m a (fun _ b => pxV s 1 m b) a0 (fun _ _ => True) (fun _ _ => True) m u (fs.up gu.size) hw hh hr (R0.grown gu) (ro_turn O0 (Tn.gb gu (S := []) (by simp)) (by simp) (by simp) (by simp)) trivial
      (fun _ _ _ _ _ => trivial) (fun _ _ _ _ _ => trivial) (fun y x' z v _ _ _ _ R _ => tink_calls c l s z.a m _ _ v R hr hm)
    rw [fz_pxs] at K
    refine K.mono (fun e w' H => ?_)
    rw [← hQ]
    obtain ⟨k, gm, a, he, hf⟩ := FP2.end fs H (Tn.gb gu (by simp))
    exact ⟨k, gm, a, he, H.1, hf⟩
  rw [hQ]
  have hcw := fs.sl c fs.cS
  have hlw := fs.sl l fs.lS
  have hgw := fs.glt
  have KF := Lib.hid KF
  have KP := Lib.hid (fun u => tpixel1_calls c m u)
  have g0 := gb_trans (World.grownBy_alloc W (.cells #[.int .i64 1, .int .i64 w, .int .i64 h, .int .i64 m, .int .i64 a] 70) none) (World.grownBy_alloc _ (.cells #[.int .i64 0, .int .i64 0, .int .i64 0] 34) none)
  have H0 : Hc W.heap.size 1 w h m a ((W.alloc (.cells #[.int .i64 1, .int .i64 w, .int .i64 h, .int .i64 m, .int .i64 a] 70)).alloc (.cells #[.int .i64 0, .int .i64 0, .int .i64 0] 34)) := Hc.al blk_at _
  have F0 : Fl (W.heap.size + 1) 0 0 0 ((W.alloc (.cells #[.int .i64 1, .int .i64 w, .int .i64 h, .int .i64 m, .int .i64 a] 70)).alloc (.cells #[.int .i64 0, .int .i64 0, .int .i64 0] 34)) := by
    rw [← size_alloc W (.cells #[.int .i64 1, .int .i64 w, .int .i64 h, .int .i64 m, .int .i64 a] 70)]
    exact Fl.new _
  have HG0 := Lib.hid g0
  have HH0 := Lib.hid H0
  have HF0 := Lib.hid F0
  clear g0 H0 F0 fs R0 O0 hr hm hQ
  go_enter Tryz.func38, Tryz.ntmps38
  go_wp2_with fail
  generalize (W.alloc (.cells #[.int .i64 1, .int .i64 w, .int .i64 h, .int .i64 m, .int .i64 a] 70)).alloc (.cells #[.int .i64 0, .int .i64 0, .int .i64 0] 34) = w0 at HG0 HH0 HF0 ⊢
  have q0 := HH0.out.c0
  have q1 := HH0.out.c1
  have q2 := HH0.out.c2
  have q3 := HH0.out.c3
  have q4 := HH0.out.c4
  go_region_held3 (fun w' => w'.cell? ⟨W.heap.size, 0, none⟩ = some (.int .i64 1) ∧ w'.cell? ⟨W.heap.size, 1, none⟩ = some (.int .i64 w) ∧ w'.cell? ⟨W.heap.size, 2, none⟩ = some (.int .i64 h) ∧ w'.cell? ⟨W.heap.size, 3, none⟩ = some (.int .i64 m) ∧ w'.cell? ⟨W.heap.size, 4, none⟩ = some (.int .i64 a)) (go_keep)
    (first
      | (go_at_call 62; refine (KP.out _).mono ?_; rintro e w2 ⟨rfl, g2⟩; have G2 := Lib.hid (gb_trans (gb_drew w0 none) g2); have H2 := HH0.out.turned (Tn.gb G2.out (S := []) (by simp)) (by simp); have kk0 := H2.c0; have kk1 := H2.c1; have kk2 := H2.c2; have kk3 := H2.c3; have kk4 := H2.c4; have HH2 := Lib.hid H2; have HF2 := Lib.hid (HF0.out.turned (Tn.gb G2.out (S := []) (by simp)) (by simp)); clear H2 g2)
      | (go_at_call 61; refine (KF.out _ (gb_trans HG0.out G2.out)).mono ?_; rintro e w3 ⟨fk, fg, fa, rfl, T3, hfin⟩; have H3 := HH2.out.turned T3 (by simp; omega); have F3 := HF2.out.turned T3 (by simp; omega); have mm0 := H3.c0; have mm1 := H3.c1; have mm2 := H3.c2; have mm3 := H3.c3; have mm4 := H3.c4; have r0 := F3.c0; have r1 := F3.c1; have r2 := F3.c2; have f0 := F3.free 0; have f1 := F3.free 1; have f2 := F3.free 2; have HFIN := Lib.hid hfin; clear H3 F3 T3 hfin))
  all_goals
    go_wp2
    refine bodyPost_ret (v := .agg #[.int .i64 fk, .int .i64 fg, .int .i64 fa]) (by simp only [results, Tryz.results38]; go_simp) rfl ?_
    exact HFIN.out (W.heap.size + 1) _ (Nat.le_succ _) ((((Tn.refl _ _).st (by simp)).st (by simp)).st (by simp))

theorem tpixel2_calls (c : Nat) (m : Int) (W : World) : Calls Tryz.prog 62 #[.agg #[.pointer (some ⟨c, 0, none⟩), .int .i64 m], .int .i64 2] W
    fun e w' => e = .returned (.func (.func 95) #[.agg #[.pointer (some ⟨c, 0, none⟩), .int .i64 m]] #[]) ∧ W.grownBy w' none := by
  have hmf : ∀ (fn : Fn) (first cap : Array Value) (w : World), (Instr.makeFunc fn first cap).run Tryz.prog w = .ok (.func fn first cap) w := fun _ _ _ _ => rfl
  have KB := Lib.hid (fun u => xbitmap_calls 2 u)
  have KC := Lib.hid (fun u => colors_calls 2 u)
  rw [show orB 1 4 2 = false from by decide] at KB
  rw [show orB 3 6 2 = false from by decide] at KC
  go_enter Tryz.func62, Tryz.ntmps62
  go_wp2_with fail
  refine (KB.out _).mono ?_
  rintro e w' ⟨rfl, rfl⟩
  go_wp2_with fail
  refine (KC.out _).mono ?_
  rintro e w' ⟨rfl, rfl⟩
  go_wp2
  go_ret
  exact ⟨rfl, World.grownBy_alloc _ _ _⟩

set_option maxRecDepth 100000 in
set_option maxHeartbeats 4000000 in
theorem tread2_calls (c l r cb g : Nat) (s : ByteArray) (x : St) (w h m a0 : Nat) (a : Int) (W : World)
    (fs : FS W [c, l] c l r cb g) (hw : w ≤ 16384) (hh : h ≤ 16384) (hm : 1 ≤ m ∧ m ≤ 65535) (hr : x.r = 0) (R0 : Rd c l s a0 x W) (O0 : Ro r l cb g w h (rb [] (w * h)) W) :
    Calls Tryz.prog 38 #[.pointer (some ⟨c, 0, none⟩), .agg #[.int .i64 2, .int .i64 w, .int .i64 h, .int .i64 m, .int .i64 a], .pointer (some ⟨r, 0, none⟩)] W
      (FP2 W [c, l] c l r cb g s x w h (pxs s 2 m a0 (w * h))) := by
  obtain ⟨Q, hQ⟩ : ∃ Q, FP2 W [c, l] c l r cb g s x w h (pxs s 2 m a0 (w * h)) = Q := ⟨_, rfl⟩
  have KF : ∀ u, W.grownBy u none → Calls Tryz.prog 61 #[.pointer (some ⟨c, 0, none⟩), .agg #[.int .i64 2, .int .i64 w, .int .i64 h, .int .i64 m, .int .i64 a], .pointer (some ⟨r, 0, none⟩), (.func (.func 95) #[.agg #[.pointer (some ⟨c, 0, none⟩), .int .i64 (m : Int)]] #[])] u
      (fun e w' => ∃ k gm a : Int, e = .returned (.agg #[.int .i64 k, .int .i64 gm, .int .i64 a]) ∧ Tn u w' [g, c, l] ∧ ∀ (b : Nat) (v : World), W.heap.size ≤ b → Tn w' v [b] → Q (.returned (.agg #[.int .i64 k, .int .i64 gm, .int .i64 a])) v) := by
    intro u gu
    have K := fill_grey [c, l] c l r cb g s x w h 2 m a (fun _ b => pxV s 2 m b) a0 (fun _ _ => True) (fun _ _ => True) m u (fs.up gu.size) hw hh hr (R0.grown gu) (ro_turn O0 (Tn.gb gu (S := []) (by simp)) (by simp) (by simp) (by simp)) trivial
      (fun _ _ _ _ _ => trivial) (fun _ _ _ _ _ => trivial) (fun y x' z v _ _ _ _ R _ => tgrey_calls c l s z.a m _ _ v R hr hm)
    rw [fz_pxs] at K
    refine K.mono (fun e w' H => ?_)
    rw [← hQ]
    obtain ⟨k, gm, a, he, hf⟩ := FP2.end fs H (Tn.gb gu (by simp))
    exact ⟨k, gm, a, he, H.1, hf⟩
  rw [hQ]
  have hcw := fs.sl c fs.cS
  have hlw := fs.sl l fs.lS
  have hgw := fs.glt
  have KF := Lib.hid KF
  have KP := Lib.hid (fun u => tpixel2_calls c m u)
  have g0 := gb_trans (World.grownBy_alloc W (.cells #[.int .i64 2, .int .i64 w, .int .i64 h, .int .i64 m, .int .i64 a] 70) none) (World.grownBy_alloc _ (.cells #[.int .i64 0, .int .i64 0, .int .i64 0] 34) none)
  have H0 : Hc W.heap.size 2 w h m a ((W.alloc (.cells #[.int .i64 2, .int .i64 w, .int .i64 h, .int .i64 m, .int .i64 a] 70)).alloc (.cells #[.int .i64 0, .int .i64 0, .int .i64 0] 34)) := Hc.al blk_at _
  have F0 : Fl (W.heap.size + 1) 0 0 0 ((W.alloc (.cells #[.int .i64 2, .int .i64 w, .int .i64 h, .int .i64 m, .int .i64 a] 70)).alloc (.cells #[.int .i64 0, .int .i64 0, .int .i64 0] 34)) := by
    rw [← size_alloc W (.cells #[.int .i64 2, .int .i64 w, .int .i64 h, .int .i64 m, .int .i64 a] 70)]
    exact Fl.new _
  have HG0 := Lib.hid g0
  have HH0 := Lib.hid H0
  have HF0 := Lib.hid F0
  clear g0 H0 F0 fs R0 O0 hr hm hQ
  go_enter Tryz.func38, Tryz.ntmps38
  go_wp2_with fail
  generalize (W.alloc (.cells #[.int .i64 2, .int .i64 w, .int .i64 h, .int .i64 m, .int .i64 a] 70)).alloc (.cells #[.int .i64 0, .int .i64 0, .int .i64 0] 34) = w0 at HG0 HH0 HF0 ⊢
  have q0 := HH0.out.c0
  have q1 := HH0.out.c1
  have q2 := HH0.out.c2
  have q3 := HH0.out.c3
  have q4 := HH0.out.c4
  go_region_held3 (fun w' => w'.cell? ⟨W.heap.size, 0, none⟩ = some (.int .i64 2) ∧ w'.cell? ⟨W.heap.size, 1, none⟩ = some (.int .i64 w) ∧ w'.cell? ⟨W.heap.size, 2, none⟩ = some (.int .i64 h) ∧ w'.cell? ⟨W.heap.size, 3, none⟩ = some (.int .i64 m) ∧ w'.cell? ⟨W.heap.size, 4, none⟩ = some (.int .i64 a)) (go_keep)
    (first
      | (go_at_call 62; refine (KP.out _).mono ?_; rintro e w2 ⟨rfl, g2⟩; have G2 := Lib.hid (gb_trans (gb_drew w0 none) g2); have H2 := HH0.out.turned (Tn.gb G2.out (S := []) (by simp)) (by simp); have kk0 := H2.c0; have kk1 := H2.c1; have kk2 := H2.c2; have kk3 := H2.c3; have kk4 := H2.c4; have HH2 := Lib.hid H2; have HF2 := Lib.hid (HF0.out.turned (Tn.gb G2.out (S := []) (by simp)) (by simp)); clear H2 g2)
      | (go_at_call 61; refine (KF.out _ (gb_trans HG0.out G2.out)).mono ?_; rintro e w3 ⟨fk, fg, fa, rfl, T3, hfin⟩; have H3 := HH2.out.turned T3 (by simp; omega); have F3 := HF2.out.turned T3 (by simp; omega); have mm0 := H3.c0; have mm1 := H3.c1; have mm2 := H3.c2; have mm3 := H3.c3; have mm4 := H3.c4; have r0 := F3.c0; have r1 := F3.c1; have r2 := F3.c2; have f0 := F3.free 0; have f1 := F3.free 1; have f2 := F3.free 2; have HFIN := Lib.hid hfin; clear H3 F3 T3 hfin))
  all_goals
    go_wp2
    refine bodyPost_ret (v := .agg #[.int .i64 fk, .int .i64 fg, .int .i64 fa]) (by simp only [results, Tryz.results38]; go_simp) rfl ?_
    exact HFIN.out (W.heap.size + 1) _ (Nat.le_succ _) ((((Tn.refl _ _).st (by simp)).st (by simp)).st (by simp))

theorem tpixel3_calls (c : Nat) (m : Int) (W : World) : Calls Tryz.prog 62 #[.agg #[.pointer (some ⟨c, 0, none⟩), .int .i64 m], .int .i64 3] W
    fun e w' => e = .returned (.func (.func 94) #[.agg #[.pointer (some ⟨c, 0, none⟩), .int .i64 m]] #[]) ∧ W.grownBy w' none := by
  have hmf : ∀ (fn : Fn) (first cap : Array Value) (w : World), (Instr.makeFunc fn first cap).run Tryz.prog w = .ok (.func fn first cap) w := fun _ _ _ _ => rfl
  have KB := Lib.hid (fun u => xbitmap_calls 3 u)
  have KC := Lib.hid (fun u => colors_calls 3 u)
  rw [show orB 1 4 3 = false from by decide] at KB
  rw [show orB 3 6 3 = true from by decide] at KC
  go_enter Tryz.func62, Tryz.ntmps62
  go_wp2_with fail
  refine (KB.out _).mono ?_
  rintro e w' ⟨rfl, rfl⟩
  go_wp2_with fail
  refine (KC.out _).mono ?_
  rintro e w' ⟨rfl, rfl⟩
  go_wp2
  go_ret
  exact ⟨rfl, World.grownBy_alloc _ _ _⟩

set_option maxRecDepth 100000 in
set_option maxHeartbeats 4000000 in
theorem tread3_calls (c l r cb g : Nat) (s : ByteArray) (x : St) (w h m a0 : Nat) (a : Int) (W : World)
    (fs : FS W [c, l] c l r cb g) (hw : w ≤ 16384) (hh : h ≤ 16384) (hm : 1 ≤ m ∧ m ≤ 65535) (hr : x.r = 0) (R0 : Rd c l s a0 x W) (O0 : Ro r l cb g w h (rb [] (w * h)) W) :
    Calls Tryz.prog 38 #[.pointer (some ⟨c, 0, none⟩), .agg #[.int .i64 3, .int .i64 w, .int .i64 h, .int .i64 m, .int .i64 a], .pointer (some ⟨r, 0, none⟩)] W
      (FP2 W [c, l] c l r cb g s x w h (pxs s 3 m a0 (w * h))) := by
  obtain ⟨Q, hQ⟩ : ∃ Q, FP2 W [c, l] c l r cb g s x w h (pxs s 3 m a0 (w * h)) = Q := ⟨_, rfl⟩
  have KF : ∀ u, W.grownBy u none → Calls Tryz.prog 61 #[.pointer (some ⟨c, 0, none⟩), .agg #[.int .i64 3, .int .i64 w, .int .i64 h, .int .i64 m, .int .i64 a], .pointer (some ⟨r, 0, none⟩), (.func (.func 94) #[.agg #[.pointer (some ⟨c, 0, none⟩), .int .i64 (m : Int)]] #[])] u
      (fun e w' => ∃ k gm a : Int, e = .returned (.agg #[.int .i64 k, .int .i64 gm, .int .i64 a]) ∧ Tn u w' [g, c, l] ∧ ∀ (b : Nat) (v : World), W.heap.size ≤ b → Tn w' v [b] → Q (.returned (.agg #[.int .i64 k, .int .i64 gm, .int .i64 a])) v) := by
    intro u gu
    have K := fill_color [c, l] c l r cb g s x w h 3 m a (fun _ b => pxV s 3 m b) a0 (fun _ _ => True) (fun _ _ => True) m u (fs.up gu.size) hw hh hr (R0.grown gu) (ro_turn O0 (Tn.gb gu (S := []) (by simp)) (by simp) (by simp) (by simp)) trivial
      (fun _ _ _ _ _ => trivial) (fun _ _ _ _ _ => trivial) (fun y x' z v _ _ _ _ R _ => tcolor_calls c l s z.a m _ _ v R hr hm)
    rw [fz_pxs] at K
    refine K.mono (fun e w' H => ?_)
    rw [← hQ]
    obtain ⟨k, gm, a, he, hf⟩ := FP2.end fs H (Tn.gb gu (by simp))
    exact ⟨k, gm, a, he, H.1, hf⟩
  rw [hQ]
  have hcw := fs.sl c fs.cS
  have hlw := fs.sl l fs.lS
  have hgw := fs.glt
  have KF := Lib.hid KF
  have KP := Lib.hid (fun u => tpixel3_calls c m u)
  have g0 := gb_trans (World.grownBy_alloc W (.cells #[.int .i64 3, .int .i64 w, .int .i64 h, .int .i64 m, .int .i64 a] 70) none) (World.grownBy_alloc _ (.cells #[.int .i64 0, .int .i64 0, .int .i64 0] 34) none)
  have H0 : Hc W.heap.size 3 w h m a ((W.alloc (.cells #[.int .i64 3, .int .i64 w, .int .i64 h, .int .i64 m, .int .i64 a] 70)).alloc (.cells #[.int .i64 0, .int .i64 0, .int .i64 0] 34)) := Hc.al blk_at _
  have F0 : Fl (W.heap.size + 1) 0 0 0 ((W.alloc (.cells #[.int .i64 3, .int .i64 w, .int .i64 h, .int .i64 m, .int .i64 a] 70)).alloc (.cells #[.int .i64 0, .int .i64 0, .int .i64 0] 34)) := by
    rw [← size_alloc W (.cells #[.int .i64 3, .int .i64 w, .int .i64 h, .int .i64 m, .int .i64 a] 70)]
    exact Fl.new _
  have HG0 := Lib.hid g0
  have HH0 := Lib.hid H0
  have HF0 := Lib.hid F0
  clear g0 H0 F0 fs R0 O0 hr hm hQ
  go_enter Tryz.func38, Tryz.ntmps38
  go_wp2_with fail
  generalize (W.alloc (.cells #[.int .i64 3, .int .i64 w, .int .i64 h, .int .i64 m, .int .i64 a] 70)).alloc (.cells #[.int .i64 0, .int .i64 0, .int .i64 0] 34) = w0 at HG0 HH0 HF0 ⊢
  have q0 := HH0.out.c0
  have q1 := HH0.out.c1
  have q2 := HH0.out.c2
  have q3 := HH0.out.c3
  have q4 := HH0.out.c4
  go_region_held3 (fun w' => w'.cell? ⟨W.heap.size, 0, none⟩ = some (.int .i64 3) ∧ w'.cell? ⟨W.heap.size, 1, none⟩ = some (.int .i64 w) ∧ w'.cell? ⟨W.heap.size, 2, none⟩ = some (.int .i64 h) ∧ w'.cell? ⟨W.heap.size, 3, none⟩ = some (.int .i64 m) ∧ w'.cell? ⟨W.heap.size, 4, none⟩ = some (.int .i64 a)) (go_keep)
    (first
      | (go_at_call 62; refine (KP.out _).mono ?_; rintro e w2 ⟨rfl, g2⟩; have G2 := Lib.hid (gb_trans (gb_drew w0 none) g2); have H2 := HH0.out.turned (Tn.gb G2.out (S := []) (by simp)) (by simp); have kk0 := H2.c0; have kk1 := H2.c1; have kk2 := H2.c2; have kk3 := H2.c3; have kk4 := H2.c4; have HH2 := Lib.hid H2; have HF2 := Lib.hid (HF0.out.turned (Tn.gb G2.out (S := []) (by simp)) (by simp)); clear H2 g2)
      | (go_at_call 61; refine (KF.out _ (gb_trans HG0.out G2.out)).mono ?_; rintro e w3 ⟨fk, fg, fa, rfl, T3, hfin⟩; have H3 := HH2.out.turned T3 (by simp; omega); have F3 := HF2.out.turned T3 (by simp; omega); have mm0 := H3.c0; have mm1 := H3.c1; have mm2 := H3.c2; have mm3 := H3.c3; have mm4 := H3.c4; have r0 := F3.c0; have r1 := F3.c1; have r2 := F3.c2; have f0 := F3.free 0; have f1 := F3.free 1; have f2 := F3.free 2; have HFIN := Lib.hid hfin; clear H3 F3 T3 hfin))
  all_goals
    go_wp2
    refine bodyPost_ret (v := .agg #[.int .i64 fk, .int .i64 fg, .int .i64 fa]) (by simp only [results, Tryz.results38]; go_simp) rfl ?_
    exact HFIN.out (W.heap.size + 1) _ (Nat.le_succ _) ((((Tn.refl _ _).st (by simp)).st (by simp)).st (by simp))

end Go.Proofs.YtcfdippcobkbaaaGreat.Px

/- A raster is filled by (tintype/pnmraw.samples).pixel (written by wip/gen/fil1.py). -/
namespace Go.Proofs.YtcfdippcobkbaaaGreat.Px
open Go.ChangeShapes Go.WideShapes Go.ChangeAt Go.RowKit
open Go.Proofs.YtcfdippcobkbaaaGreat.Le Go.Proofs.YtcfdippcobkbaaaGreat.Tk Go.Proofs.YtcfdippcobkbaaaGreat.Sc Go.Proofs.YtcfdippcobkbaaaGreat.Sr Go.Proofs.YtcfdippcobkbaaaGreat.Ph Go.Proofs.YtcfdippcobkbaaaGreat.Ra
set_option linter.unusedVariables false

set_option maxRecDepth 100000 in
set_option maxHeartbeats 8000000 in
theorem fill_raw (S : List Nat) (c l r cb g : Nat) (s : ByteArray) (x : St) (w h : Nat) (k m a : Int) (P : Nat → Nat → PX) (a0 : Nat) (X Y : Nat → World → Prop) (wd : Bool) (sb : Nat) (nn : Int) (W : World)
    (fs : FS W S c l r cb g) (hw : w ≤ 16384) (hh : h ≤ 16384) (hr : x.r = 0) (R0 : Rd c l s a0 x W) (O0 : Ro r l cb g w h (rb [] (w * h)) W) (X0 : X 0 W)
    (hX : ∀ i u u', X i u → u.grownBy u' none → X i u') (hY : ∀ i u u', Y i u → Tn u u' [l, g] → X (i + 1) u')
    (KN : ∀ (y x' : Nat) (z : PS) (u : World), y < h → x' < w → fz P a0 (y * w + x') = z → z.f = 0 → Rd c l s z.a (stp x (z.n + (y * w + x'))) u → X (y * w + x') u →
      Calls Tryz.prog 104 #[.agg #[.pointer (some ⟨c, 0, none⟩), .bool wd, .pointer (some ⟨sb, 0, none⟩), .int .i64 nn], .int .i64 x'] u (NP u S c l s (stp x (z.n + (y * w + x'))) (P (y * w + x') z.a) (Y (y * w + x')))) :
    Calls Tryz.prog 61 #[.pointer (some ⟨c, 0, none⟩), .agg #[.int .i64 k, .int .i64 w, .int .i64 h, .int .i64 m, .int .i64 a], .pointer (some ⟨r, 0, none⟩), (.func (.func 104) #[.agg #[.pointer (some ⟨c, 0, none⟩), .bool wd, .pointer (some ⟨sb, 0, none⟩), .int .i64 nn]] #[])] W
      (FP2 W S c l r cb g s x w h (fz P a0 (w * h))) := by
  obtain ⟨Q, hQ⟩ : ∃ Q, FP2 W S c l r cb g s x w h (fz P a0 (w * h)) = Q := ⟨_, rfl⟩
  rw [hQ]
  have HQ := Lib.hid hQ
  have g0 := gb_trans (World.grownBy_alloc W (.cells #[.int .i64 k, .int .i64 w, .int .i64 h, .int .i64 m, .int .i64 a] 70) none) (World.grownBy_alloc _ (.cells #[.int .i64 0, .int .i64 0, .int .i64 0] 34) none)
  have I0 : FI W S c l r cb g s x w h k m a P a0 X 0 ((W.alloc (.cells #[.int .i64 k, .int .i64 w, .int .i64 h, .int .i64 m, .int .i64 a] 70)).alloc (.cells #[.int .i64 0, .int .i64 0, .int .i64 0] 34)) := by
    refine ⟨rfl, ?_, ro_turn O0 (Tn.gb g0 (S := []) (by simp)) (by simp) (by simp) (by simp), hX _ _ _ X0 g0, Tn.gb g0 (by simp), Hc.al blk_at _, ?_⟩
    · show Rd c l s a0 (stp x 0) _
      rw [stp_0]
      exact R0.grown g0
    · rw [← size_alloc W (.cells #[.int .i64 k, .int .i64 w, .int .i64 h, .int .i64 m, .int .i64 a] 70)]
      exact Fl.new _
  have HI0 := Lib.hid I0
  have HFS := Lib.hid fs
  have HX := Lib.hid hX
  have HY := Lib.hid hY
  have HKN := Lib.hid KN
  have HR := Lib.hid hr
  clear hQ g0 I0 fs hX hY KN hr R0 O0 X0
  go_enter Tryz.func61, Tryz.ntmps61
  go_wp2_with fail
  generalize (W.alloc (.cells #[.int .i64 k, .int .i64 w, .int .i64 h, .int .i64 m, .int .i64 a] 70)).alloc (.cells #[.int .i64 0, .int .i64 0, .int .i64 0] 34) = w0 at HI0 ⊢
  have hc2 := HI0.out.hd.c2
  go_wp2_with fail
  clear hc2
  go_loopg [15] h (fun q yv wr => ∃ y : Nat, y ≤ h ∧ q = h - y ∧ yv = .int .i64 y ∧ FI W S c l r cb g s x w h k m a P a0 X (y * w) wr)
  case atStart => exact ⟨0, Nat.zero_le _, rfl, rfl, by rw [Nat.zero_mul]; exact HI0.out⟩
  case round =>
    obtain ⟨y, hyh, rfl, rfl, I⟩ := hrel
    have HI := Lib.hid I
    have hc1 := I.hd.c1
    have hc2 := I.hd.c2
    clear I HI0
    by_cases hy : y < h
    · have d0 : decide ((y : Int) < (h : Int)) = true := decide_eq_true (by omega)
      go_wp2_with fail
      go_loopg [20] w (fun q xv wr2 => ∃ x' : Nat, x' ≤ w ∧ q = w - x' ∧ xv = .int .i64 x' ∧ FI W S c l r cb g s x w h k m a P a0 X (y * w + x') wr2)
      case atStart => exact ⟨0, Nat.zero_le _, rfl, rfl, by rw [Nat.add_zero]; exact HI.out⟩
      case round =>
        clear HI hc1 hc2
        obtain ⟨x', hxw, rfl, rfl, I⟩ := hrel
        have HI := Lib.hid I
        clear I
        by_cases hx : x' < w
        · have d1 : decide ((x' : Int) < (w : Int)) = true := decide_eq_true (by omega)
          obtain ⟨z, hz⟩ : ∃ z, fz P a0 (y * w + x') = z := ⟨_, rfl⟩
          obtain ⟨i, hi⟩ : ∃ i, y * w + x' = i := ⟨_, rfl⟩
          have KK := HKN.out y x' z wr hy hx hz
          rw [hi] at KK hz HI
          have I2 := HI.out
          have z0 := I2.z0
          have rd := I2.rd
          have ro := I2.ro
          rw [hz] at z0 rd ro
          have K1 := KK z0 rd I2.xx
          have hL := fz_len (P := P) (a0 := a0) i I2.z0
          rw [hz] at hL
          have hiN : i < w * h := by
            have := Nat.mul_le_mul_right w (show y + 1 ≤ h by omega)
            rw [Nat.add_mul, Nat.one_mul] at this
            rw [Nat.mul_comm w h]
            omega
          obtain ⟨oo, hoo⟩ : ∃ oo, P i z.a = oo := ⟨_, rfl⟩
          rw [hoo] at K1
          have K2 := Lib.hid K1
          have HZ := Lib.hid hz
          have HOO := Lib.hid hoo
          have HZ0 := Lib.hid z0
          have HRO := Lib.hid ro
          have HTN := Lib.hid I2.tn
          have HHD := Lib.hid I2.hd
          have HFL := Lib.hid I2.fl
          have HL := Lib.hid hL
          have HP := Lib.hid hi
          have HN := Lib.hid hiN
          clear KK I2 z0 rd ro K1 hL hz hoo hi hiN HI
          go_wp2_with fail
          refine K2.out.mono ?_
          rintro e w1 ⟨T1, ⟨of, ov, rfl, R1, Y1⟩ | ⟨kk, fm, aa, q, yy, bd, rfl, R1⟩⟩
          · have gy := (gb_trans (World.grownBy_alloc w1 (.cells #[.int .u8 (oo.r : Int), .int .u8 (oo.g : Int), .int .u8 (oo.b : Int), .int .u8 255] 60) none) (World.grownBy_alloc _ (.cells #[.int .i64 0, .int .i64 0, .int .i64 0] 34) none))
            have NW0 : W.heap.size ∉ S := HFS.out.ne (Nat.le_refl _)
            have NW1 : W.heap.size + 1 ∉ S := HFS.out.ne (Nat.le_succ _)
            have ro2 := ro_turn HRO.out (T1.trans (Tn.gb gy (by simp))) HFS.out.rS HFS.out.bS HFS.out.gS
            have hd2 := (HHD.out.turned T1 NW0).turned (Tn.gb gy (S := []) (by simp)) (by simp)
            have fl2 := (HFL.out.turned T1 NW1).turned (Tn.gb gy (S := []) (by simp)) (by simp)
            have rd2 := R1.grown gy
            have tn2 := (HTN.out.trans (FS.one T1)).trans (Tn.gb gy (by simp))
            have HY2 := Lib.hid (fun u' (t : Tn w1 u' [l, g]) => HY.out i w1 u' Y1 t)
            have HG := Lib.hid gy
            have HRO2 := Lib.hid ro2
            have HHD2 := Lib.hid hd2
            have HFL2 := Lib.hid fl2
            have HRD2 := Lib.hid rd2
            have HTN2 := Lib.hid tn2
            have HOF := Lib.hid of
            have HOV := Lib.hid ov
            have C2 : Co w1.heap.size oo.r oo.g oo.b 255 ((w1.alloc (.cells #[.int .u8 (oo.r : Int), .int .u8 (oo.g : Int), .int .u8 (oo.b : Int), .int .u8 255] 60)).alloc (.cells #[.int .i64 0, .int .i64 0, .int .i64 0] 34)) := blk_al blk_at _
            have HC2 := Lib.hid C2
            clear gy ro2 hd2 fl2 rd2 tn2 of ov R1 Y1 T1 HRO HHD HFL HTN K2 C2
            simp only [okF]
            go_wp2_with fail
            generalize (w1.alloc (.cells #[.int .u8 (oo.r : Int), .int .u8 (oo.g : Int), .int .u8 (oo.b : Int), .int .u8 255] 60)).alloc (.cells #[.int .i64 0, .int .i64 0, .int .i64 0] 34) = w2 at HG HRO2 HHD2 HFL2 HRD2 HTN2 HC2 ⊢
            have hrr : (stp (stp x (z.n + i)) oo.n).r = 0 := HR.out
            by_cases hk : (stp (stp x (z.n + i)) oo.n).st + 1 ≤ (stp (stp x (z.n + i)) oo.n).s
            · refine (set_pix r l cb g w h x' y i z.l oo.r oo.g oo.b _ w2 HOV.out HL.out HRO2.out HRD2.out.led HRD2.out.ok hrr hk hx hy hw hh HP.out).mono ?_
              rintro e w3 ⟨rfl, ⟨ro3, ld3⟩, T3⟩
              have rd3 := rd_next HRD2.out T3 (by simp; exact ⟨HRD2.out.so.bl, HFS.out.cg⟩) ld3 (stp1_ok HRD2.out.ok hrr hk)
              rw [stp_stp, stp_stp] at rd3
              have N0 : W.heap.size ∉ [l, g] := by have h1 := HFS.out.sl l HFS.out.lS; have h2 := HFS.out.glt; simp; omega
              have N1 : W.heap.size + 1 ∉ [l, g] := by have h1 := HFS.out.sl l HFS.out.lS; have h2 := HFS.out.glt; simp; omega
              have I3 := Lib.hid (FI.step HZ.out HOO.out HZ0.out HOF.out rd3 ro3 (HY2.out w3 ((Tn.gb HG.out (by simp)).trans T3)) (HTN2.out.trans (HFS.out.two T3)) (HHD2.out.turned T3 N0) (HFL2.out.turned T3 N1))
              have HP2 := Lib.hid (show y * w + (x' + 1) = i + 1 by have := HP.out; omega)
              clear ro3 ld3 T3 rd3 hk
              go_wp2
              go_roundg (w - (x' + 1))
              case measure => omega
              case rel => exact ⟨x' + 1, by omega, rfl, by go_num, by rw [HP2.out]; exact I3.out⟩
            · have hk' : (stp (stp x (z.n + i)) oo.n).s < (stp (stp x (z.n + i)) oo.n).st + 1 := by omega
              refine (set_nix r l cb g w h x' y i _ oo.r oo.g oo.b _ w2 HRO2.out HRD2.out.led HRD2.out.ok hrr hk' hx hy hw hh HP.out).mono ?_
              rintro e w3 ⟨rfl, ⟨ro3, ld3⟩, T3⟩
              have rd3 := rd_next HRD2.out T3 (by simp; exact ⟨HRD2.out.so.bl, HFS.out.cg⟩) ld3 (spent_ok HRD2.out.ok hrr hk')
              rw [stp_spent, stp_spent] at rd3
              have hbd := fz_set (N := w * h) HZ.out HOO.out HZ0.out HOF.out HN.out (x := x) (by rw [stp_stp, stp_st, stp_s] at hk'; exact hk')
              have N1 : W.heap.size + 1 ∉ [l, g] := by have h1 := HFS.out.sl l HFS.out.lS; have h2 := HFS.out.glt; simp; omega
              have KA := Lib.hid (at_rd c l s _ _ w3 rd3)
              have KF := Lib.hid (fun u => xfault_calls 4 (oo.a : Int) u)
              have fl3 := HFL2.out.turned T3 N1
              have hap := rd3.so.pt
              have HRO3 := Lib.hid ro3
              have HRD3 := Lib.hid rd3
              have HT3 := Lib.hid (HTN2.out.trans (HFS.out.two T3))
              have HFL3 := Lib.hid fl3
              have HBD := Lib.hid hbd
              clear ro3 ld3 T3 rd3 hk hk' hbd fl3
              go_wp2_with fail
              refine KA.out.mono ?_
              rintro e w' ⟨rfl, rfl⟩
              go_wp2_with fail
              refine (KF.out _).mono ?_
              rintro e w4 ⟨rfl, g4⟩
              have F4 := HFL3.out.turned (Tn.gb g4 (S := []) (by simp)) (by simp)
              have r0 := F4.c0
              have r1 := F4.c1
              have r2 := F4.c2
              have f0 := F4.free 0
              have f1 := F4.free 1
              have f2 := F4.free 2
              have HRO4 := Lib.hid (ro_turn HRO3.out (Tn.gb g4 (S := []) (by simp)) (by simp) (by simp) (by simp))
              have HRD4 := Lib.hid (HRD3.out.grown g4)
              have HT4 := Lib.hid (HT3.out.trans (Tn.gb g4 (by simp)))
              clear F4 g4
              go_wp2
              try rw [Exit.noGoto_ret]
              refine bodyPost_ret (v := .agg #[.int .i64 4, .int .i64 3, .int .i64 oo.a]) (by simp only [results, Tryz.results61]; go_simp) rfl ?_
              rw [← HQ.out]
              exact ⟨Tn.owns3 HT4.out (Nat.le_succ _), .inr ⟨4, 3, oo.a, oo.a, _, _, ⟨hap, .inr ⟨HBD.out, rfl, rfl, rfl, rfl⟩⟩, rfl, HRD4.out.st3 (own_ne HFS.out HFS.out.cS) (own_ne HFS.out HFS.out.lS), ro_own HFS.out HRO4.out⟩⟩
          · have hk := bd.kne
            have d2 : (kk != 0) = true := by rw [bne_iff_ne]; exact hk
            have gy := (gb_trans (World.grownBy_alloc w1 (.cells #[.int .u8 0, .int .u8 0, .int .u8 0, .int .u8 0] 60) none) (World.grownBy_alloc _ (.cells #[.int .i64 kk, .int .i64 fm, .int .i64 aa] 34) none))
            have NW0 : W.heap.size ∉ S := HFS.out.ne (Nat.le_refl _)
            have NW1 : W.heap.size + 1 ∉ S := HFS.out.ne (Nat.le_succ _)
            have ro2 := ro_turn HRO.out (T1.trans (Tn.gb gy (by simp))) HFS.out.rS HFS.out.bS HFS.out.gS
            have hd2 := (HHD.out.turned T1 NW0).turned (Tn.gb gy (S := []) (by simp)) (by simp)
            have fl2 := (HFL.out.turned T1 NW1).turned (Tn.gb gy (S := []) (by simp)) (by simp)
            have rd2 := R1.grown gy
            have tn2 := (HTN.out.trans (FS.one T1)).trans (Tn.gb gy (by simp))
            have C2 : Co w1.heap.size 0 0 0 0 ((w1.alloc (.cells #[.int .u8 0, .int .u8 0, .int .u8 0, .int .u8 0] 60)).alloc (.cells #[.int .i64 kk, .int .i64 fm, .int .i64 aa] 34)) := blk_al blk_at _
            have G2 : Fl (w1.heap.size + 1) kk fm aa ((w1.alloc (.cells #[.int .u8 0, .int .u8 0, .int .u8 0, .int .u8 0] 60)).alloc (.cells #[.int .i64 kk, .int .i64 fm, .int .i64 aa] 34)) := by
              rw [← size_alloc w1 (.cells #[.int .u8 0, .int .u8 0, .int .u8 0, .int .u8 0] 60)]
              exact blk_at
            have HBD := Lib.hid (fz_bad HZ.out HOO.out HZ0.out HN.out bd)
            have q0 := G2.c0
            have q1 := G2.c1
            have q2 := G2.c2
            have r0 := fl2.c0
            have r1 := fl2.c1
            have r2 := fl2.c2
            have f0 := fl2.free 0
            have f1 := fl2.free 1
            have f2 := fl2.free 2
            have HRO2 := Lib.hid ro2
            have HRD2 := Lib.hid rd2
            have HTN2 := Lib.hid tn2
            clear gy ro2 hd2 fl2 rd2 tn2 R1 T1 HRO HHD HFL HTN K2 C2 G2 bd hk
            go_wp2_with fail
            try rw [Exit.noGoto_ret]
            refine bodyPost_ret (v := .agg #[.int .i64 kk, .int .i64 fm, .int .i64 aa]) (by simp only [results, Tryz.results61]; go_simp) rfl ?_
            rw [← HQ.out]
            exact ⟨Tn.owns3 HTN2.out (Nat.le_succ _), .inr ⟨kk, fm, aa, q, yy, _, HBD.out, rfl, HRD2.out.st3 (own_ne HFS.out HFS.out.cS) (own_ne HFS.out HFS.out.lS), ro_own HFS.out HRO2.out⟩⟩
        · obtain rfl : x' = w := by omega
          have d1 : decide ((x' : Int) < (x' : Int)) = false := decide_eq_false (by omega)
          have HP2 := Lib.hid (show (y + 1) * x' = y * x' + x' by rw [Nat.add_mul, Nat.one_mul])
          go_wp2
          go_roundg (h - (y + 1))
          case measure => omega
          case rel => exact ⟨y + 1, by omega, rfl, by go_num, by rw [HP2.out]; exact HI.out⟩
    · obtain rfl : y = h := by omega
      have d0 : decide ((y : Int) < (y : Int)) = false := decide_eq_false (by omega)
      have r0 := HI.out.fl.c0
      have r1 := HI.out.fl.c1
      have r2 := HI.out.fl.c2
      have f0 := HI.out.fl.free 0
      have f1 := HI.out.fl.free 1
      have f2 := HI.out.fl.free 2
      have hN : y * w = w * y := Nat.mul_comm _ _
      have I := HI.out
      rw [hN] at I
      have HI2 := Lib.hid I
      clear I hN
      go_wp2
      refine bodyPost_ret (v := okF) (by simp only [results, Tryz.results61, okF]; go_simp) rfl ?_
      rw [← HQ.out]
      exact ⟨Tn.owns3 HI2.out.tn (Nat.le_succ _), .inl ⟨HI2.out.z0, rfl, HI2.out.rd.st3 (own_ne HFS.out HFS.out.cS) (own_ne HFS.out HFS.out.lS), ro_own HFS.out HI2.out.ro⟩⟩

end Go.Proofs.YtcfdippcobkbaaaGreat.Px

/- A raster is filled by tintype/pnmraw.readBits$1 (written by wip/gen/fil1.py). -/
namespace Go.Proofs.YtcfdippcobkbaaaGreat.Px
open Go.ChangeShapes Go.WideShapes Go.ChangeAt Go.RowKit
open Go.Proofs.YtcfdippcobkbaaaGreat.Le Go.Proofs.YtcfdippcobkbaaaGreat.Tk Go.Proofs.YtcfdippcobkbaaaGreat.Sc Go.Proofs.YtcfdippcobkbaaaGreat.Sr Go.Proofs.YtcfdippcobkbaaaGreat.Ph Go.Proofs.YtcfdippcobkbaaaGreat.Ra
set_option linter.unusedVariables false

set_option maxRecDepth 100000 in
set_option maxHeartbeats 8000000 in
theorem fill_bits (S : List Nat) (c l r cb g : Nat) (s : ByteArray) (x : St) (w h : Nat) (k m a : Int) (P : Nat → Nat → PX) (a0 : Nat) (X Y : Nat → World → Prop) (bc sc : Nat) (W : World)
    (fs : FS W S c l r cb g) (hw : w ≤ 16384) (hh : h ≤ 16384) (hr : x.r = 0) (R0 : Rd c l s a0 x W) (O0 : Ro r l cb g w h (rb [] (w * h)) W) (X0 : X 0 W)
    (hX : ∀ i u u', X i u → u.grownBy u' none → X i u') (hY : ∀ i u u', Y i u → Tn u u' [l, g] → X (i + 1) u')
    (KN : ∀ (y x' : Nat) (z : PS) (u : World), y < h → x' < w → fz P a0 (y * w + x') = z → z.f = 0 → Rd c l s z.a (stp x (z.n + (y * w + x'))) u → X (y * w + x') u →
      Calls Tryz.prog 98 #[.int .i64 x', .pointer (some ⟨bc, 0, none⟩), .pointer (some ⟨sc, 0, none⟩)] u (NP u S c l s (stp x (z.n + (y * w + x'))) (P (y * w + x') z.a) (Y (y * w + x')))) :
    Calls Tryz.prog 61 #[.pointer (some ⟨c, 0, none⟩), .agg #[.int .i64 k, .int .i64 w, .int .i64 h, .int .i64 m, .int .i64 a], .pointer (some ⟨r, 0, none⟩), (.func (.func 98) #[] #[.pointer (some ⟨bc, 0, none⟩), .pointer (some ⟨sc, 0, none⟩)])] W
      (FP2 W S c l r cb g s x w h (fz P a0 (w * h))) := by
  obtain ⟨Q, hQ⟩ : ∃ Q, FP2 W S c l r cb g s x w h (fz P a0 (w * h)) = Q := ⟨_, rfl⟩
  rw [hQ]
  have HQ := Lib.hid hQ
  have g0 := gb_trans (World.grownBy_alloc W (.cells #[.int .i64 k, .int .i64 w, .int .i64 h, .int .i64 m, .int .i64 a] 70) none) (World.grownBy_alloc _ (.cells #[.int .i64 0, .int .i64 0, .int .i64 0] 34) none)
  have I0 : FI W S c l r cb g s x w h k m a P a0 X 0 ((W.alloc (.cells #[.int .i64 k, .int .i64 w, .int .i64 h, .int .i64 m, .int .i64 a] 70)).alloc (.cells #[.int .i64 0, .int .i64 0, .int .i64 0] 34)) := by
    refine ⟨rfl, ?_, ro_turn O0 (Tn.gb g0 (S := []) (by simp)) (by simp) (by simp) (by simp), hX _ _ _ X0 g0, Tn.gb g0 (by simp), Hc.al blk_at _, ?_⟩
    · show Rd c l s a0 (stp x 0) _
      rw [stp_0]
      exact R0.grown g0
    · rw [← size_alloc W (.cells #[.int .i64 k, .int .i64 w, .int .i64 h, .int .i64 m, .int .i64 a] 70)]
      exact Fl.new _
  have HI0 := Lib.hid I0
  have HFS := Lib.hid fs
  have HX := Lib.hid hX
  have HY := Lib.hid hY
  have HKN := Lib.hid KN
  have HR := Lib.hid hr
  clear hQ g0 I0 fs hX hY KN hr R0 O0 X0
  go_enter Tryz.func61, Tryz.ntmps61
  go_wp2_with fail
  generalize (W.alloc (.cells #[.int .i64 k, .int .i64 w, .int .i64 h, .int .i64 m, .int .i64 a] 70)).alloc (.cells #[.int .i64 0, .int .i64 0, .int .i64 0] 34) = w0 at HI0 ⊢
  have hc2 := HI0.out.hd.c2
  go_wp2_with fail
  clear hc2
  go_loopg [15] h (fun q yv wr => ∃ y : Nat, y ≤ h ∧ q = h - y ∧ yv = .int .i64 y ∧ FI W S c l r cb g s x w h k m a P a0 X (y * w) wr)
  case atStart => exact ⟨0, Nat.zero_le _, rfl, rfl, by rw [Nat.zero_mul]; exact HI0.out⟩
  case round =>
    obtain ⟨y, hyh, rfl, rfl, I⟩ := hrel
    have HI := Lib.hid I
    have hc1 := I.hd.c1
    have hc2 := I.hd.c2
    clear I HI0
    by_cases hy : y < h
    · have d0 : decide ((y : Int) < (h : Int)) = true := decide_eq_true (by omega)
      go_wp2_with fail
      go_loopg [20] w (fun q xv wr2 => ∃ x' : Nat, x' ≤ w ∧ q = w - x' ∧ xv = .int .i64 x' ∧ FI W S c l r cb g s x w h k m a P a0 X (y * w + x') wr2)
      case atStart => exact ⟨0, Nat.zero_le _, rfl, rfl, by rw [Nat.add_zero]; exact HI.out⟩
      case round =>
        clear HI hc1 hc2
        obtain ⟨x', hxw, rfl, rfl, I⟩ := hrel
        have HI := Lib.hid I
        clear I
        by_cases hx : x' < w
        · have d1 : decide ((x' : Int) < (w : Int)) = true := decide_eq_true (by omega)
          obtain ⟨z, hz⟩ : ∃ z, fz P a0 (y * w + x') = z := ⟨_, rfl⟩
          obtain ⟨i, hi⟩ : ∃ i, y * w + x' = i := ⟨_, rfl⟩
          have KK := HKN.out y x' z wr hy hx hz
          rw [hi] at KK hz HI
          have I2 := HI.out
          have z0 := I2.z0
          have rd := I2.rd
          have ro := I2.ro
          rw [hz] at z0 rd ro
          have K1 := KK z0 rd I2.xx
          have hL := fz_len (P := P) (a0 := a0) i I2.z0
          rw [hz] at hL
          have hiN : i < w * h := by
            have := Nat.mul_le_mul_right w (show y + 1 ≤ h by omega)
            rw [Nat.add_mul, Nat.one_mul] at this
            rw [Nat.mul_comm w h]
            omega
          obtain ⟨oo, hoo⟩ : ∃ oo, P i z.a = oo := ⟨_, rfl⟩
          rw [hoo] at K1
          have K2 := Lib.hid K1
          have HZ := Lib.hid hz
          have HOO := Lib.hid hoo
          have HZ0 := Lib.hid z0
          have HRO := Lib.hid ro
          have HTN := Lib.hid I2.tn
          have HHD := Lib.hid I2.hd
          have HFL := Lib.hid I2.fl
          have HL := Lib.hid hL
          have HP := Lib.hid hi
          have HN := Lib.hid hiN
          clear KK I2 z0 rd ro K1 hL hz hoo hi hiN HI
          go_wp2_with fail
          refine K2.out.mono ?_
          rintro e w1 ⟨T1, ⟨of, ov, rfl, R1, Y1⟩ | ⟨kk, fm, aa, q, yy, bd, rfl, R1⟩⟩
          · have gy := (gb_trans (World.grownBy_alloc w1 (.cells #[.int .u8 (oo.r : Int), .int .u8 (oo.g : Int), .int .u8 (oo.b : Int), .int .u8 255] 60) none) (World.grownBy_alloc _ (.cells #[.int .i64 0, .int .i64 0, .int .i64 0] 34) none))
            have NW0 : W.heap.size ∉ S := HFS.out.ne (Nat.le_refl _)
            have NW1 : W.heap.size + 1 ∉ S := HFS.out.ne (Nat.le_succ _)
            have ro2 := ro_turn HRO.out (T1.trans (Tn.gb gy (by simp))) HFS.out.rS HFS.out.bS HFS.out.gS
            have hd2 := (HHD.out.turned T1 NW0).turned (Tn.gb gy (S := []) (by simp)) (by simp)
            have fl2 := (HFL.out.turned T1 NW1).turned (Tn.gb gy (S := []) (by simp)) (by simp)
            have rd2 := R1.grown gy
            have tn2 := (HTN.out.trans (FS.one T1)).trans (Tn.gb gy (by simp))
            have HY2 := Lib.hid (fun u' (t : Tn w1 u' [l, g]) => HY.out i w1 u' Y1 t)
            have HG := Lib.hid gy
            have HRO2 := Lib.hid ro2
            have HHD2 := Lib.hid hd2
            have HFL2 := Lib.hid fl2
            have HRD2 := Lib.hid rd2
            have HTN2 := Lib.hid tn2
            have HOF := Lib.hid of
            have HOV := Lib.hid ov
            have C2 : Co w1.heap.size oo.r oo.g oo.b 255 ((w1.alloc (.cells #[.int .u8 (oo.r : Int), .int .u8 (oo.g : Int), .int .u8 (oo.b : Int), .int .u8 255] 60)).alloc (.cells #[.int .i64 0, .int .i64 0, .int .i64 0] 34)) := blk_al blk_at _
            have HC2 := Lib.hid C2
            clear gy ro2 hd2 fl2 rd2 tn2 of ov R1 Y1 T1 HRO HHD HFL HTN K2 C2
            simp only [okF]
            go_wp2_with fail
            generalize (w1.alloc (.cells #[.int .u8 (oo.r : Int), .int .u8 (oo.g : Int), .int .u8 (oo.b : Int), .int .u8 255] 60)).alloc (.cells #[.int .i64 0, .int .i64 0, .int .i64 0] 34) = w2 at HG HRO2 HHD2 HFL2 HRD2 HTN2 HC2 ⊢
            have hrr : (stp (stp x (z.n + i)) oo.n).r = 0 := HR.out
            by_cases hk : (stp (stp x (z.n + i)) oo.n).st + 1 ≤ (stp (stp x (z.n + i)) oo.n).s
            · refine (set_pix r l cb g w h x' y i z.l oo.r oo.g oo.b _ w2 HOV.out HL.out HRO2.out HRD2.out.led HRD2.out.ok hrr hk hx hy hw hh HP.out).mono ?_
              rintro e w3 ⟨rfl, ⟨ro3, ld3⟩, T3⟩
              have rd3 := rd_next HRD2.out T3 (by simp; exact ⟨HRD2.out.so.bl, HFS.out.cg⟩) ld3 (stp1_ok HRD2.out.ok hrr hk)
              rw [stp_stp, stp_stp] at rd3
              have N0 : W.heap.size ∉ [l, g] := by have h1 := HFS.out.sl l HFS.out.lS; have h2 := HFS.out.glt; simp; omega
              have N1 : W.heap.size + 1 ∉ [l, g] := by have h1 := HFS.out.sl l HFS.out.lS; have h2 := HFS.out.glt; simp; omega
              have I3 := Lib.hid (FI.step HZ.out HOO.out HZ0.out HOF.out rd3 ro3 (HY2.out w3 ((Tn.gb HG.out (by simp)).trans T3)) (HTN2.out.trans (HFS.out.two T3)) (HHD2.out.turned T3 N0) (HFL2.out.turned T3 N1))
              have HP2 := Lib.hid (show y * w + (x' + 1) = i + 1 by have := HP.out; omega)
              clear ro3 ld3 T3 rd3 hk
              go_wp2
              go_roundg (w - (x' + 1))
              case measure => omega
              case rel => exact ⟨x' + 1, by omega, rfl, by go_num, by rw [HP2.out]; exact I3.out⟩
            · have hk' : (stp (stp x (z.n + i)) oo.n).s < (stp (stp x (z.n + i)) oo.n).st + 1 := by omega
              refine (set_nix r l cb g w h x' y i _ oo.r oo.g oo.b _ w2 HRO2.out HRD2.out.led HRD2.out.ok hrr hk' hx hy hw hh HP.out).mono ?_
              rintro e w3 ⟨rfl, ⟨ro3, ld3⟩, T3⟩
              have rd3 := rd_next HRD2.out T3 (by simp; exact ⟨HRD2.out.so.bl, HFS.out.cg⟩) ld3 (spent_ok HRD2.out.ok hrr hk')
              rw [stp_spent, stp_spent] at rd3
              have hbd := fz_set (N := w * h) HZ.out HOO.out HZ0.out HOF.out HN.out (x := x) (by rw [stp_stp, stp_st, stp_s] at hk'; exact hk')
              have N1 : W.heap.size + 1 ∉ [l, g] := by have h1 := HFS.out.sl l HFS.out.lS; have h2 := HFS.out.glt; simp; omega
              have KA := Lib.hid (at_rd c l s _ _ w3 rd3)
              have KF := Lib.hid (fun u => xfault_calls 4 (oo.a : Int) u)
              have fl3 := HFL2.out.turned T3 N1
              have hap := rd3.so.pt
              have HRO3 := Lib.hid ro3
              have HRD3 := Lib.hid rd3
              have HT3 := Lib.hid (HTN2.out.trans (HFS.out.two T3))
              have HFL3 := Lib.hid fl3
              have HBD := Lib.hid hbd
              clear ro3 ld3 T3 rd3 hk hk' hbd fl3
              go_wp2_with fail
              refine KA.out.mono ?_
              rintro e w' ⟨rfl, rfl⟩
              go_wp2_with fail
              refine (KF.out _).mono ?_
              rintro e w4 ⟨rfl, g4⟩
              have F4 := HFL3.out.turned (Tn.gb g4 (S := []) (by simp)) (by simp)
              have r0 := F4.c0
              have r1 := F4.c1
              have r2 := F4.c2
              have f0 := F4.free 0
              have f1 := F4.free 1
              have f2 := F4.free 2
              have HRO4 := Lib.hid (ro_turn HRO3.out (Tn.gb g4 (S := []) (by simp)) (by simp) (by simp) (by simp))
              have HRD4 := Lib.hid (HRD3.out.grown g4)
              have HT4 := Lib.hid (HT3.out.trans (Tn.gb g4 (by simp)))
              clear F4 g4
              go_wp2
              try rw [Exit.noGoto_ret]
              refine bodyPost_ret (v := .agg #[.int .i64 4, .int .i64 3, .int .i64 oo.a]) (by simp only [results, Tryz.results61]; go_simp) rfl ?_
              rw [← HQ.out]
              exact ⟨Tn.owns3 HT4.out (Nat.le_succ _), .inr ⟨4, 3, oo.a, oo.a, _, _, ⟨hap, .inr ⟨HBD.out, rfl, rfl, rfl, rfl⟩⟩, rfl, HRD4.out.st3 (own_ne HFS.out HFS.out.cS) (own_ne HFS.out HFS.out.lS), ro_own HFS.out HRO4.out⟩⟩
          · have hk := bd.kne
            have d2 : (kk != 0) = true := by rw [bne_iff_ne]; exact hk
            have gy := (gb_trans (World.grownBy_alloc w1 (.cells #[.int .u8 0, .int .u8 0, .int .u8 0, .int .u8 0] 60) none) (World.grownBy_alloc _ (.cells #[.int .i64 kk, .int .i64 fm, .int .i64 aa] 34) none))
            have NW0 : W.heap.size ∉ S := HFS.out.ne (Nat.le_refl _)
            have NW1 : W.heap.size + 1 ∉ S := HFS.out.ne (Nat.le_succ _)
            have ro2 := ro_turn HRO.out (T1.trans (Tn.gb gy (by simp))) HFS.out.rS HFS.out.bS HFS.out.gS
            have hd2 := (HHD.out.turned T1 NW0).turned (Tn.gb gy (S := []) (by simp)) (by simp)
            have fl2 := (HFL.out.turned T1 NW1).turned (Tn.gb gy (S := []) (by simp)) (by simp)
            have rd2 := R1.grown gy
            have tn2 := (HTN.out.trans (FS.one T1)).trans (Tn.gb gy (by simp))
            have C2 : Co w1.heap.size 0 0 0 0 ((w1.alloc (.cells #[.int .u8 0, .int .u8 0, .int .u8 0, .int .u8 0] 60)).alloc (.cells #[.int .i64 kk, .int .i64 fm, .int .i64 aa] 34)) := blk_al blk_at _
            have G2 : Fl (w1.heap.size + 1) kk fm aa ((w1.alloc (.cells #[.int .u8 0, .int .u8 0, .int .u8 0, .int .u8 0] 60)).alloc (.cells #[.int .i64 kk, .int .i64 fm, .int .i64 aa] 34)) := by
              rw [← size_alloc w1 (.cells #[.int .u8 0, .int .u8 0, .int .u8 0, .int .u8 0] 60)]
              exact blk_at
            have HBD := Lib.hid (fz_bad HZ.out HOO.out HZ0.out HN.out bd)
            have q0 := G2.c0
            have q1 := G2.c1
            have q2 := G2.c2
            have r0 := fl2.c0
            have r1 := fl2.c1
            have r2 := fl2.c2
            have f0 := fl2.free 0
            have f1 := fl2.free 1
            have f2 := fl2.free 2
            have HRO2 := Lib.hid ro2
            have HRD2 := Lib.hid rd2
            have HTN2 := Lib.hid tn2
            clear gy ro2 hd2 fl2 rd2 tn2 R1 T1 HRO HHD HFL HTN K2 C2 G2 bd hk
            go_wp2_with fail
            try rw [Exit.noGoto_ret]
            refine bodyPost_ret (v := .agg #[.int .i64 kk, .int .i64 fm, .int .i64 aa]) (by simp only [results, Tryz.results61]; go_simp) rfl ?_
            rw [← HQ.out]
            exact ⟨Tn.owns3 HTN2.out (Nat.le_succ _), .inr ⟨kk, fm, aa, q, yy, _, HBD.out, rfl, HRD2.out.st3 (own_ne HFS.out HFS.out.cS) (own_ne HFS.out HFS.out.lS), ro_own HFS.out HRO2.out⟩⟩
        · obtain rfl : x' = w := by omega
          have d1 : decide ((x' : Int) < (x' : Int)) = false := decide_eq_false (by omega)
          have HP2 := Lib.hid (show (y + 1) * x' = y * x' + x' by rw [Nat.add_mul, Nat.one_mul])
          go_wp2
          go_roundg (h - (y + 1))
          case measure => omega
          case rel => exact ⟨y + 1, by omega, rfl, by go_num, by rw [HP2.out]; exact HI.out⟩
    · obtain rfl : y = h := by omega
      have d0 : decide ((y : Int) < (y : Int)) = false := decide_eq_false (by omega)
      have r0 := HI.out.fl.c0
      have r1 := HI.out.fl.c1
      have r2 := HI.out.fl.c2
      have f0 := HI.out.fl.free 0
      have f1 := HI.out.fl.free 1
      have f2 := HI.out.fl.free 2
      have hN : y * w = w * y := Nat.mul_comm _ _
      have I := HI.out
      rw [hN] at I
      have HI2 := Lib.hid I
      clear I hN
      go_wp2
      refine bodyPost_ret (v := okF) (by simp only [results, Tryz.results61, okF]; go_simp) rfl ?_
      rw [← HQ.out]
      exact ⟨Tn.owns3 HI2.out.tn (Nat.le_succ _), .inl ⟨HI2.out.z0, rfl, HI2.out.rd.st3 (own_ne HFS.out HFS.out.cS) (own_ne HFS.out HFS.out.lS), ro_own HFS.out HI2.out.ro⟩⟩

end Go.Proofs.YtcfdippcobkbaaaGreat.Px
