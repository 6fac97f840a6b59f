/- Texts of one kind, one behind the other: Raw2, Raw3, Raw4, Raw5, Raw6, Raw7, Raw8, Pnm1. -/
import Derived.BigQuiet
import Derived.BigRegion
import Derived.Deep.LoopGhost
import Derived.Deep.Onto
import Derived.Deep.QuietTactic
import Derived.Deep.RegionLaw
import Derived.Test.YtcfdippcobkbaaaGreatG09
import Derived.Test.YtcfdippcobkbaaaGreatG16
import Derived.Test.YtcfdippcobkbaaaGreatG19
/- Layer 14: the document's pixel of the kind 5, samples of 1 bytes each (written by wip/gen/raw2.py). -/
namespace Go.Proofs.YtcfdippcobkbaaaGreat.Px
open Go.ChangeShapes Go.WideShapes Go.ChangeAt Go.RowKit
open Go.Proofs.YtcfdippcobkbaaaGreat.Le Go.Proofs.YtcfdippcobkbaaaGreat.Tk Go.Proofs.YtcfdippcobkbaaaGreat.Sc Go.Proofs.YtcfdippcobkbaaaGreat.Sr
set_option linter.unusedVariables false

set_option maxRecDepth 100000 in
set_option maxHeartbeats 4000000 in
theorem rpixel51_calls (s : ByteArray) (w h m a0 fr x : Nat) (fz pz : Int) (W : World) (hs : s.size ≤ 9223372036854775806) (hm : 1 ≤ m ∧ m ≤ 65535) (hm2 : m ≤ 255) (hx : x ≤ 16384) (hfr : fr ≤ 9000000000000000000) :
    Calls Tryz.prog 46 #[.string s, .agg #[.int .i64 5, .int .i64 w, .int .i64 h, .int .i64 m, .int .i64 a0, .int .i64 fz, .int .i64 pz], .int .i64 fr, .int .i64 x] W (DX W (rawX s 5 m fr x)) := by
  have hsz : sz m = 1 := if_neg (by omega)
  have hX : rawX s 5 m fr x = ⟨(rms s m 1 (fr + x * 1 * 1) 1).f, (rms s m 1 (fr + x * 1 * 1) 1).p, 0, (rms s m 1 (fr + x * 1 * 1) 1).vs.getD 0 0, (rms s m 1 (fr + x * 1 * 1) 1).vs.getD 0 0, (rms s m 1 (fr + x * 1 * 1) 1).vs.getD 0 0, 0⟩ := by
    unfold rawX
    rw [if_neg (by decide), hsz]
    rfl
  obtain ⟨bs, hbs⟩ : ∃ q, fr + x * 1 * 1 = q := ⟨_, rfl⟩
  rw [hbs] at hX
  obtain ⟨o, ho⟩ : ∃ o, rawX s 5 m fr x = o := ⟨_, rfl⟩
  rw [ho] at hX ⊢
  obtain ⟨Q, hQ⟩ : ∃ Q, DX W o = Q := ⟨_, rfl⟩
  rw [hQ]
  have HQ := Lib.hid hQ
  have HX := Lib.hid hX
  have HB0 := Lib.hid hbs
  clear ho hX hQ hsz hbs
  obtain ⟨hb, hhb⟩ : ∃ x, W.heap.size = x := ⟨_, rfl⟩
  have z1 := size_alloc W (.cells #[.int .i64 5, .int .i64 w, .int .i64 h, .int .i64 m, .int .i64 a0, .int .i64 fz, .int .i64 pz] 24)
  have z2 := size_alloc (W.alloc (.cells #[.int .i64 5, .int .i64 w, .int .i64 h, .int .i64 m, .int .i64 a0, .int .i64 fz, .int .i64 pz] 24)) (.cells #[.int .u8 0, .int .u8 0, .int .u8 0, .int .u8 0] 60)
  have z3 := size_alloc ((W.alloc (.cells #[.int .i64 5, .int .i64 w, .int .i64 h, .int .i64 m, .int .i64 a0, .int .i64 fz, .int .i64 pz] 24)).alloc (.cells #[.int .u8 0, .int .u8 0, .int .u8 0, .int .u8 0] 60)) (.cells #[.int .i64 0, .int .i64 0, .slice none 0 0, .int .i64 0, .int .i64 0] 28)
  have b1 : (W.alloc (.cells #[.int .i64 5, .int .i64 w, .int .i64 h, .int .i64 m, .int .i64 a0, .int .i64 fz, .int .i64 pz] 24)).heap[W.heap.size]? = _ := blk_at
  have b2 : ((W.alloc (.cells #[.int .i64 5, .int .i64 w, .int .i64 h, .int .i64 m, .int .i64 a0, .int .i64 fz, .int .i64 pz] 24)).alloc (.cells #[.int .u8 0, .int .u8 0, .int .u8 0, .int .u8 0] 60)).heap[(W.alloc (.cells #[.int .i64 5, .int .i64 w, .int .i64 h, .int .i64 m, .int .i64 a0, .int .i64 fz, .int .i64 pz] 24)).heap.size]? = _ := blk_at
  have b3 : (((W.alloc (.cells #[.int .i64 5, .int .i64 w, .int .i64 h, .int .i64 m, .int .i64 a0, .int .i64 fz, .int .i64 pz] 24)).alloc (.cells #[.int .u8 0, .int .u8 0, .int .u8 0, .int .u8 0] 60)).alloc (.cells #[.int .i64 0, .int .i64 0, .slice none 0 0, .int .i64 0, .int .i64 0] 28)).heap[((W.alloc (.cells #[.int .i64 5, .int .i64 w, .int .i64 h, .int .i64 m, .int .i64 a0, .int .i64 fz, .int .i64 pz] 24)).alloc (.cells #[.int .u8 0, .int .u8 0, .int .u8 0, .int .u8 0] 60)).heap.size]? = _ := blk_at
  have P0 : PI W hb (hb + 1) (hb + 1 + 1) 5 w h m a0 fz pz (hb + 1 + 1 + 1) (.slice none 0 0) [] (((W.alloc (.cells #[.int .i64 5, .int .i64 w, .int .i64 h, .int .i64 m, .int .i64 a0, .int .i64 fz, .int .i64 pz] 24)).alloc (.cells #[.int .u8 0, .int .u8 0, .int .u8 0, .int .u8 0] 60)).alloc (.cells #[.int .i64 0, .int .i64 0, .slice none 0 0, .int .i64 0, .int .i64 0] 28)) := by
    rw [z1, hhb] at b2 z2
    rw [z2] at b3 z3
    rw [hhb] at b1
    exact ⟨blk_al (blk_al b1 _) _, blk_al b2 _, b3, World.ownsRow_nil _ _ _ _, gb_trans (gb_trans (World.grownBy_alloc _ _ _) (World.grownBy_alloc _ _ _)) (World.grownBy_alloc _ _ _), by omega, by omega, by omega, by omega, by omega, by omega, by omega⟩
  have Z0 : (((W.alloc (.cells #[.int .i64 5, .int .i64 w, .int .i64 h, .int .i64 m, .int .i64 a0, .int .i64 fz, .int .i64 pz] 24)).alloc (.cells #[.int .u8 0, .int .u8 0, .int .u8 0, .int .u8 0] 60)).alloc (.cells #[.int .i64 0, .int .i64 0, .slice none 0 0, .int .i64 0, .int .i64 0] 28)).heap.size = hb + 1 + 1 + 1 := by rw [z3, z2, z1, hhb]
  have HP0 := Lib.hid P0
  have HZ0 := Lib.hid Z0
  clear z1 z2 z3 b1 b2 b3 P0 Z0
  go_enter Tryz.func46, Tryz.ntmps46
  have HHB := Lib.hid hhb
  have d0 : decide ((255 : Int) < (m : Int)) = false := decide_eq_false (by omega)
  go_wp2_with fail
  clear hhb
  generalize (((W.alloc (.cells #[.int .i64 5, .int .i64 w, .int .i64 h, .int .i64 m, .int .i64 a0, .int .i64 fz, .int .i64 pz] 24)).alloc (.cells #[.int .u8 0, .int .u8 0, .int .u8 0, .int .u8 0] 60)).alloc (.cells #[.int .i64 0, .int .i64 0, .slice none 0 0, .int .i64 0, .int .i64 0] 28)) = w1 at HP0 HZ0 ⊢
  have S0 : PI W hb (hb + 1) (hb + 1 + 1) 5 w h m a0 fz pz (hb + 1 + 1 + 1) (.slice (some ⟨hb + 1 + 1 + 1, 0, none⟩) 0 0) [] (w1.alloc (.cells #[] 3)) := by
    have hz := HZ0.out
    have hP := HP0.out.grown (World.grownBy_alloc w1 (.cells #[] 3) none)
    refine ⟨hP.fhd, hP.fra, hP.frb, ?_, hP.g, hP.hlt, hP.alt, hP.blt, hP.Wa, hP.Wb, hP.ab, hP.Bu⟩
    have h1 : (w1.alloc (.cells #[] 3)).ownsRow w1.heap.size 3 1 (.slice (some ⟨w1.heap.size, 0, none⟩) 0 0) 0 [] := World.ownsRow_made w1 #[] 0 (Nat.le_refl _) (by unfold maxLen; omega) (by simp)
    rw [hz] at h1
    exact h1
  have HS0 := Lib.hid S0
  have hz := HZ0.out
  try rw [hz]
  clear S0 HP0 HZ0 hz
  generalize w1.alloc (.cells #[] 3) = w2 at HS0 ⊢
  go_loopg [12, 13] 1 (fun q lv kv w' => ∃ (kk : Nat) (v : Value) (y : SS), kk ≤ 1 ∧ q = 1 - kk ∧ kv = .int .i64 kk ∧ v = lv ∧ rms s m 1 bs kk = y ∧ y.f = 0 ∧ y.vs.length = kk ∧ (∀ x, x ∈ y.vs → x ≤ 255) ∧ PI W hb (hb + 1) (hb + 1 + 1) 5 w h m a0 fz pz (hb + 1 + 1 + 1) v y.vs w')
  case atStart => exact ⟨0, _, _, Nat.zero_le _, rfl, rfl, rfl, rfl, rfl, rfl, (fun x hx => by cases hx), HS0.out⟩
  case round =>
    obtain ⟨kk, v, ⟨yf, yp, ya, yvs, yn⟩, hkk, rfl, rfl, rfl, hy, hyf, hyl, hy255, SI0⟩ := hrel
    obtain rfl : yf = 0 := hyf
    have HY := Lib.hid hy
    have HS1 := Lib.hid SI0
    have HY2 := Lib.hid hy255
    have hyl : yvs.length = kk := hyl
    have c0 := SI0.c0
    have c3 := SI0.c3
    clear hy SI0 HS0 hy255
    by_cases hkn : kk < 1
    · obtain ⟨A, hA⟩ : ∃ A, bs + kk * 1 = A := ⟨_, rfl⟩
      have hAI : (fr : Int) + ((x : Int) + (kk : Int)) = (A : Int) := by
        have := HB0.out
        omega
      have hA2 : A ≤ 9000000000000200000 := by omega
      by_cases hlen : s.size < A + 1
      · have hE : o.f = 1 ∧ o.p = s.size := by
          have h1 : rms s m 1 bs (kk + 1) = ⟨1, s.size, ya, yvs, yn + 0⟩ := by
            show (rms s m 1 bs kk).step _ = _
            rw [HY.out, hA]
            unfold rawS
            rw [if_pos hlen, ss_fault rfl (show (1 : Nat) ≠ 0 by decide)]
          have h2 := rms_stay s m 1 bs (i := kk + 1) (by rw [h1]; exact (show (1 : Nat) ≠ 0 by decide)) 1 (by omega)
          rw [HX.out, h2, h1]
          exact ⟨rfl, rfl⟩
        have HE := Lib.hid hE
        have d1 : decide ((s.size : Int) < (A : Int) + 1) = true := decide_eq_true (by omega)
        clear hE hA
        go_wp2_with fail
        refine (rimg_bad 1 s.size _).mono ?_
        rintro e w4 ⟨rfl, g4⟩
        have P4 := HS1.out.grown g4
        have qa := P4.aslot
        have qb := P4.bslot
        obtain ⟨qa0, qa1, qa2, qa3⟩ := qa
        obtain ⟨qb0, qb1, qb2, qb3, qb4⟩ := qb
        have fa0 := P4.afree 0
        have fa1 := P4.afree 1
        have fa2 := P4.afree 2
        have fa3 := P4.afree 3
        have fb0 := P4.bfree 0
        have fb1 := P4.bfree 1
        have fb2 := P4.bfree 2
        have fb3 := P4.bfree 3
        have fb4 := P4.bfree 4
        have HP4 := Lib.hid P4
        clear P4 g4 HS1 c0 c3
        go_wp2
        refine bodyPost_ret (v := .tuple #[.agg #[.int .u8 0, .int .u8 0, .int .u8 0, .int .u8 0], .agg #[.int .i64 0, .int .i64 0, .slice none 0 0, .int .i64 1, .int .i64 s.size]]) (by simp only [results, Tryz.results46]; go_simp) rfl ?_
        rw [← HQ.out]
        have hk := HHB.out
        refine ⟨?_, .inl ⟨by rw [HE.out.1]; decide, by rw [HE.out.1, HE.out.2]; rfl⟩⟩
        exact gb_own (gb_own (gb_own (gb_own (gb_own (gb_own (gb_own (gb_own (gb_own HP4.out.g (k := hb + 1) (by omega) (gb_set _ _ _ _)) (k := hb + 1) (by omega) (gb_set _ _ _ _)) (k := hb + 1) (by omega) (gb_set _ _ _ _)) (k := hb + 1) (by omega) (gb_set _ _ _ _)) (k := hb + 1 + 1) (by omega) (gb_set _ _ _ _)) (k := hb + 1 + 1) (by omega) (gb_set _ _ _ _)) (k := hb + 1 + 1) (by omega) (gb_set _ _ _ _)) (k := hb + 1 + 1) (by omega) (gb_set _ _ _ _)) (k := hb + 1 + 1) (by omega) (gb_set _ _ _ _)
      · have d1 : decide ((s.size : Int) < (A : Int) + 1) = false := decide_eq_false (by omega)
        have hcut : ∀ w, (Instr.slice 9 (.string s) (some (.int .i64 (A : Int))) (some (.int .i64 ((A : Int) + 1))) none).run Tryz.prog w = .ok (.string (s.extract A (A + 1))) w := fun w => cut_at s A 1 (by omega) w
        have hraw : rawS s m 1 A = if m < numV true (s.extract A (A + 1)) then ⟨2, A, 0, 0, 0⟩ else ⟨0, 0, A + 1, nearN (numV true (s.extract A (A + 1))) m, 0⟩ := by
          unfold rawS
          rw [if_neg hlen]
        have hzs : (s.extract A (A + 1)).size ≤ 4 := by rw [ByteArray.size_extract]; omega
        obtain ⟨z, hz⟩ : ∃ z, s.extract A (A + 1) = z := ⟨_, rfl⟩
        rw [hz] at hcut hraw hzs
        have KB := fun u => rbe_calls z u hzs
        obtain ⟨V, hV⟩ : ∃ V, numV true z = V := ⟨_, rfl⟩
        rw [hV] at KB hraw
        have KB := Lib.hid KB
        clear hz hV
        by_cases hbig : m < V
        · have hE : o.f = 2 ∧ o.p = A := by
            have h1 : rms s m 1 bs (kk + 1) = ⟨2, A, ya, yvs, yn + 0⟩ := by
              show (rms s m 1 bs kk).step _ = _
              rw [HY.out, hA, hraw, if_pos hbig, ss_fault rfl (show (2 : Nat) ≠ 0 by decide)]
            have h2 := rms_stay s m 1 bs (i := kk + 1) (by rw [h1]; exact (show (2 : Nat) ≠ 0 by decide)) 1 (by omega)
            rw [HX.out, h2, h1]
            exact ⟨rfl, rfl⟩
          have HE := Lib.hid hE
          have d3 : decide ((m : Int) < (V : Int)) = true := decide_eq_true (by omega)
          clear hE hA hraw hlen
          go_wp2_with fail
          refine (KB.out _).mono ?_
          rintro e w' ⟨rfl, rfl⟩
          go_wp2_with fail
          refine (rimg_bad 2 A _).mono ?_
          rintro e w4 ⟨rfl, g4⟩
          have P4 := HS1.out.grown g4
          have qa := P4.aslot
          have qb := P4.bslot
          obtain ⟨qa0, qa1, qa2, qa3⟩ := qa
          obtain ⟨qb0, qb1, qb2, qb3, qb4⟩ := qb
          have fa0 := P4.afree 0
          have fa1 := P4.afree 1
          have fa2 := P4.afree 2
          have fa3 := P4.afree 3
          have fb0 := P4.bfree 0
          have fb1 := P4.bfree 1
          have fb2 := P4.bfree 2
          have fb3 := P4.bfree 3
          have fb4 := P4.bfree 4
          have HP4 := Lib.hid P4
          clear P4 g4 HS1 c0 c3
          go_wp2
          refine bodyPost_ret (v := .tuple #[.agg #[.int .u8 0, .int .u8 0, .int .u8 0, .int .u8 0], .agg #[.int .i64 0, .int .i64 0, .slice none 0 0, .int .i64 2, .int .i64 A]]) (by simp only [results, Tryz.results46]; go_simp) rfl ?_
          rw [← HQ.out]
          have hk := HHB.out
          refine ⟨?_, .inl ⟨by rw [HE.out.1]; decide, by rw [HE.out.1, HE.out.2]; rfl⟩⟩
          exact gb_own (gb_own (gb_own (gb_own (gb_own (gb_own (gb_own (gb_own (gb_own HP4.out.g (k := hb + 1) (by omega) (gb_set _ _ _ _)) (k := hb + 1) (by omega) (gb_set _ _ _ _)) (k := hb + 1) (by omega) (gb_set _ _ _ _)) (k := hb + 1) (by omega) (gb_set _ _ _ _)) (k := hb + 1 + 1) (by omega) (gb_set _ _ _ _)) (k := hb + 1 + 1) (by omega) (gb_set _ _ _ _)) (k := hb + 1 + 1) (by omega) (gb_set _ _ _ _)) (k := hb + 1 + 1) (by omega) (gb_set _ _ _ _)) (k := hb + 1 + 1) (by omega) (gb_set _ _ _ _)
        · obtain ⟨y, hyv⟩ : ∃ y, nearN V m = y := ⟨_, rfl⟩
          have hy1 := nearN_is hm.1 (show V ≤ m by omega)
          have hy2 := nearN_le hm.1 (show V ≤ m by omega)
          rw [hyv] at hy1 hy2 hraw
          have KM := fun u => rmax_calls (V : Int) (m : Int) u (by omega) (by omega) (by omega) (by omega)
          rw [← hy1] at KM
          have KM := Lib.hid KM
          have h1 : rms s m 1 bs (kk + 1) = ⟨0, 0, A + 1, yvs ++ [y], yn + 0⟩ := by
            show (rms s m 1 bs kk).step _ = _
            rw [HY.out, hA, hraw, if_neg hbig, ss_yes rfl rfl]
          have HY1 := Lib.hid h1
          have d3 : decide ((m : Int) < (V : Int)) = false := decide_eq_false (by omega)
          have hlen2 : yvs.length < 1000000 := by omega
          have H255 := Lib.hid (show ∀ q, q ∈ yvs ++ [y] → q ≤ 255 from fun q hq => by
            rcases List.mem_append.1 hq with h | h
            · exact HY2.out q h
            · simp at h
              omega)
          clear h1 hy1 hy2 hyv hraw hA hlen
          go_wp2_with fail
          refine (KB.out _).mono ?_
          rintro e w' ⟨rfl, rfl⟩
          go_wp2_with fail
          refine (KM.out _).mono ?_
          rintro e w' ⟨rfl, rfl⟩
          go_wp2_with (at_builtin; refine pint_app y HS1.out hlen2 (by rfl) (by rfl) (by rfl) (by rfl) ?_)
          intro gg cap w6 hS6
          have HS6 := Lib.hid hS6
          clear hS6 HS1 c0 c3
          go_wp2_with fail
          go_roundg (1 - (kk + 1))
          case measure => omega
          case rel => exact ⟨kk + 1, _, _, by omega, rfl, by go_num, rfl, HY1.out, rfl, by simp [hyl], H255.out, HS6.out⟩
    · obtain rfl : kk = 1 := by omega
      obtain ⟨p1, rfl⟩ : ∃ x, yvs = [x] := by
        match yvs, hyl with
        | [x], _ => exact ⟨x, rfl⟩
      have hp1 := HY2.out p1 (by simp)
      have hE : o = ⟨0, yp, 0, p1, p1, p1, 0⟩ := by
        rw [HX.out, HY.out]
        rfl
      obtain ⟨lg, lc, hvl⟩ : ∃ g c, v = .slice (some ⟨g, 0, none⟩) 1 c := by
        obtain ⟨g, c, h1, _⟩ := HS1.out.own.form (by simp)
        exact ⟨g, c, h1⟩
      subst hvl
      have HE := Lib.hid hE
      have v0 := HS1.out.cell (j := 0) rfl
      have KG := Lib.hid (fun u => rgray_calls (p1 : Int) u (by omega) (by omega))
      clear hE c0 c3
      go_wp2_with fail
      refine (KG.out _).mono ?_
      rintro e w5 ⟨rfl, g5⟩
      have P5 := HS1.out.grown g5
      have qa := P5.aslot
      have qb := P5.bslot
      obtain ⟨qa0, qa1, qa2, qa3⟩ := qa
      obtain ⟨qb0, qb1, qb2, qb3, qb4⟩ := qb
      have fa0 := P5.afree 0
      have fa1 := P5.afree 1
      have fa2 := P5.afree 2
      have fa3 := P5.afree 3
      have fb0 := P5.bfree 0
      have fb1 := P5.bfree 1
      have fb2 := P5.bfree 2
      have fb3 := P5.bfree 3
      have fb4 := P5.bfree 4
      have HP5 := Lib.hid P5
      clear P5 g5 HS1
      go_wp2
      refine bodyPost_ret (v := .tuple #[.agg #[.int .u8 p1, .int .u8 p1, .int .u8 p1, .int .u8 255], .agg #[.int .i64 0, .int .i64 0, .slice none 0 0, .int .i64 0, .int .i64 0]]) (by simp only [results, Tryz.results46]; go_simp) rfl ?_
      rw [← HQ.out, HE.out]
      have hk := HHB.out
      refine ⟨?_, .inr ⟨rfl, hp1, hp1, hp1, rfl⟩⟩
      exact gb_own (gb_own (gb_own (gb_own (gb_own (gb_own (gb_own (gb_own (gb_own HP5.out.g (k := hb + 1) (by omega) (gb_set _ _ _ _)) (k := hb + 1) (by omega) (gb_set _ _ _ _)) (k := hb + 1) (by omega) (gb_set _ _ _ _)) (k := hb + 1) (by omega) (gb_set _ _ _ _)) (k := hb + 1 + 1) (by omega) (gb_set _ _ _ _)) (k := hb + 1 + 1) (by omega) (gb_set _ _ _ _)) (k := hb + 1 + 1) (by omega) (gb_set _ _ _ _)) (k := hb + 1 + 1) (by omega) (gb_set _ _ _ _)) (k := hb + 1 + 1) (by omega) (gb_set _ _ _ _)

end Go.Proofs.YtcfdippcobkbaaaGreat.Px

/- Layer 14: the document's pixel of the kind 5, samples of 2 bytes each (written by wip/gen/raw2.py). -/
namespace Go.Proofs.YtcfdippcobkbaaaGreat.Px
open Go.ChangeShapes Go.WideShapes Go.ChangeAt Go.RowKit
open Go.Proofs.YtcfdippcobkbaaaGreat.Le Go.Proofs.YtcfdippcobkbaaaGreat.Tk Go.Proofs.YtcfdippcobkbaaaGreat.Sc Go.Proofs.YtcfdippcobkbaaaGreat.Sr
set_option linter.unusedVariables false

set_option maxRecDepth 100000 in
set_option maxHeartbeats 4000000 in
theorem rpixel52_calls (s : ByteArray) (w h m a0 fr x : Nat) (fz pz : Int) (W : World) (hs : s.size ≤ 9223372036854775806) (hm : 1 ≤ m ∧ m ≤ 65535) (hm2 : 255 < m) (hx : x ≤ 16384) (hfr : fr ≤ 9000000000000000000) :
    Calls Tryz.prog 46 #[.string s, .agg #[.int .i64 5, .int .i64 w, .int .i64 h, .int .i64 m, .int .i64 a0, .int .i64 fz, .int .i64 pz], .int .i64 fr, .int .i64 x] W (DX W (rawX s 5 m fr x)) := by
  have hsz : sz m = 2 := if_pos hm2
  have hX : rawX s 5 m fr x = ⟨(rms s m 2 (fr + x * 1 * 2) 1).f, (rms s m 2 (fr + x * 1 * 2) 1).p, 0, (rms s m 2 (fr + x * 1 * 2) 1).vs.getD 0 0, (rms s m 2 (fr + x * 1 * 2) 1).vs.getD 0 0, (rms s m 2 (fr + x * 1 * 2) 1).vs.getD 0 0, 0⟩ := by
    unfold rawX
    rw [if_neg (by decide), hsz]
    rfl
  obtain ⟨bs, hbs⟩ : ∃ q, fr + x * 1 * 2 = q := ⟨_, rfl⟩
  rw [hbs] at hX
  obtain ⟨o, ho⟩ : ∃ o, rawX s 5 m fr x = o := ⟨_, rfl⟩
  rw [ho] at hX ⊢
  obtain ⟨Q, hQ⟩ : ∃ Q, DX W o = Q := ⟨_, rfl⟩
  rw [hQ]
  have HQ := Lib.hid hQ
  have HX := Lib.hid hX
  have HB0 := Lib.hid hbs
  clear ho hX hQ hsz hbs
  obtain ⟨hb, hhb⟩ : ∃ x, W.heap.size = x := ⟨_, rfl⟩
  have z1 := size_alloc W (.cells #[.int .i64 5, .int .i64 w, .int .i64 h, .int .i64 m, .int .i64 a0, .int .i64 fz, .int .i64 pz] 24)
  have z2 := size_alloc (W.alloc (.cells #[.int .i64 5, .int .i64 w, .int .i64 h, .int .i64 m, .int .i64 a0, .int .i64 fz, .int .i64 pz] 24)) (.cells #[.int .u8 0, .int .u8 0, .int .u8 0, .int .u8 0] 60)
  have z3 := size_alloc ((W.alloc (.cells #[.int .i64 5, .int .i64 w, .int .i64 h, .int .i64 m, .int .i64 a0, .int .i64 fz, .int .i64 pz] 24)).alloc (.cells #[.int .u8 0, .int .u8 0, .int .u8 0, .int .u8 0] 60)) (.cells #[.int .i64 0, .int .i64 0, .slice none 0 0, .int .i64 0, .int .i64 0] 28)
  have b1 : (W.alloc (.cells #[.int .i64 5, .int .i64 w, .int .i64 h, .int .i64 m, .int .i64 a0, .int .i64 fz, .int .i64 pz] 24)).heap[W.heap.size]? = _ := blk_at
  have b2 : ((W.alloc (.cells #[.int .i64 5, .int .i64 w, .int .i64 h, .int .i64 m, .int .i64 a0, .int .i64 fz, .int .i64 pz] 24)).alloc (.cells #[.int .u8 0, .int .u8 0, .int .u8 0, .int .u8 0] 60)).heap[(W.alloc (.cells #[.int .i64 5, .int .i64 w, .int .i64 h, .int .i64 m, .int .i64 a0, .int .i64 fz, .int .i64 pz] 24)).heap.size]? = _ := blk_at
  have b3 : (((W.alloc (.cells #[.int .i64 5, .int .i64 w, .int .i64 h, .int .i64 m, .int .i64 a0, .int .i64 fz, .int .i64 pz] 24)).alloc (.cells #[.int .u8 0, .int .u8 0, .int .u8 0, .int .u8 0] 60)).alloc (.cells #[.int .i64 0, .int .i64 0, .slice none 0 0, .int .i64 0, .int .i64 0] 28)).heap[((W.alloc (.cells #[.int .i64 5, .int .i64 w, .int .i64 h, .int .i64 m, .int .i64 a0, .int .i64 fz, .int .i64 pz] 24)).alloc (.cells #[.int .u8 0, .int .u8 0, .int .u8 0, .int .u8 0] 60)).heap.size]? = _ := blk_at
  have P0 : PI W hb (hb + 1) (hb + 1 + 1) 5 w h m a0 fz pz (hb + 1 + 1 + 1) (.slice none 0 0) [] (((W.alloc (.cells #[.int .i64 5, .int .i64 w, .int .i64 h, .int .i64 m, .int .i64 a0, .int .i64 fz, .int .i64 pz] 24)).alloc (.cells #[.int .u8 0, .int .u8 0, .int .u8 0, .int .u8 0] 60)).alloc (.cells #[.int .i64 0, .int .i64 0, .slice none 0 0, .int .i64 0, .int .i64 0] 28)) := by
    rw [z1, hhb] at b2 z2
    rw [z2] at b3 z3
    rw [hhb] at b1
    exact ⟨blk_al (blk_al b1 _) _, blk_al b2 _, b3, World.ownsRow_nil _ _ _ _, gb_trans (gb_trans (World.grownBy_alloc _ _ _) (World.grownBy_alloc _ _ _)) (World.grownBy_alloc _ _ _), by omega, by omega, by omega, by omega, by omega, by omega, by omega⟩
  have Z0 : (((W.alloc (.cells #[.int .i64 5, .int .i64 w, .int .i64 h, .int .i64 m, .int .i64 a0, .int .i64 fz, .int .i64 pz] 24)).alloc (.cells #[.int .u8 0, .int .u8 0, .int .u8 0, .int .u8 0] 60)).alloc (.cells #[.int .i64 0, .int .i64 0, .slice none 0 0, .int .i64 0, .int .i64 0] 28)).heap.size = hb + 1 + 1 + 1 := by rw [z3, z2, z1, hhb]
  have HP0 := Lib.hid P0
  have HZ0 := Lib.hid Z0
  clear z1 z2 z3 b1 b2 b3 P0 Z0
  go_enter Tryz.func46, Tryz.ntmps46
  have HHB := Lib.hid hhb
  have d0 : decide ((255 : Int) < (m : Int)) = true := decide_eq_true (by omega)
  go_wp2_with fail
  clear hhb
  generalize (((W.alloc (.cells #[.int .i64 5, .int .i64 w, .int .i64 h, .int .i64 m, .int .i64 a0, .int .i64 fz, .int .i64 pz] 24)).alloc (.cells #[.int .u8 0, .int .u8 0, .int .u8 0, .int .u8 0] 60)).alloc (.cells #[.int .i64 0, .int .i64 0, .slice none 0 0, .int .i64 0, .int .i64 0] 28)) = w1 at HP0 HZ0 ⊢
  have S0 : PI W hb (hb + 1) (hb + 1 + 1) 5 w h m a0 fz pz (hb + 1 + 1 + 1) (.slice (some ⟨hb + 1 + 1 + 1, 0, none⟩) 0 0) [] (w1.alloc (.cells #[] 3)) := by
    have hz := HZ0.out
    have hP := HP0.out.grown (World.grownBy_alloc w1 (.cells #[] 3) none)
    refine ⟨hP.fhd, hP.fra, hP.frb, ?_, hP.g, hP.hlt, hP.alt, hP.blt, hP.Wa, hP.Wb, hP.ab, hP.Bu⟩
    have h1 : (w1.alloc (.cells #[] 3)).ownsRow w1.heap.size 3 1 (.slice (some ⟨w1.heap.size, 0, none⟩) 0 0) 0 [] := World.ownsRow_made w1 #[] 0 (Nat.le_refl _) (by unfold maxLen; omega) (by simp)
    rw [hz] at h1
    exact h1
  have HS0 := Lib.hid S0
  have hz := HZ0.out
  try rw [hz]
  clear S0 HP0 HZ0 hz
  generalize w1.alloc (.cells #[] 3) = w2 at HS0 ⊢
  go_loopg [12, 13] 1 (fun q lv kv w' => ∃ (kk : Nat) (v : Value) (y : SS), kk ≤ 1 ∧ q = 1 - kk ∧ kv = .int .i64 kk ∧ v = lv ∧ rms s m 2 bs kk = y ∧ y.f = 0 ∧ y.vs.length = kk ∧ (∀ x, x ∈ y.vs → x ≤ 255) ∧ PI W hb (hb + 1) (hb + 1 + 1) 5 w h m a0 fz pz (hb + 1 + 1 + 1) v y.vs w')
  case atStart => exact ⟨0, _, _, Nat.zero_le _, rfl, rfl, rfl, rfl, rfl, rfl, (fun x hx => by cases hx), HS0.out⟩
  case round =>
    obtain ⟨kk, v, ⟨yf, yp, ya, yvs, yn⟩, hkk, rfl, rfl, rfl, hy, hyf, hyl, hy255, SI0⟩ := hrel
    obtain rfl : yf = 0 := hyf
    have HY := Lib.hid hy
    have HS1 := Lib.hid SI0
    have HY2 := Lib.hid hy255
    have hyl : yvs.length = kk := hyl
    have c0 := SI0.c0
    have c3 := SI0.c3
    clear hy SI0 HS0 hy255
    by_cases hkn : kk < 1
    · obtain ⟨A, hA⟩ : ∃ A, bs + kk * 2 = A := ⟨_, rfl⟩
      have hAI : (fr : Int) + ((x : Int) + (kk : Int)) * 2 = (A : Int) := by
        have := HB0.out
        omega
      have hA2 : A ≤ 9000000000000200000 := by omega
      by_cases hlen : s.size < A + 2
      · have hE : o.f = 1 ∧ o.p = s.size := by
          have h1 : rms s m 2 bs (kk + 1) = ⟨1, s.size, ya, yvs, yn + 0⟩ := by
            show (rms s m 2 bs kk).step _ = _
            rw [HY.out, hA]
            unfold rawS
            rw [if_pos hlen, ss_fault rfl (show (1 : Nat) ≠ 0 by decide)]
          have h2 := rms_stay s m 2 bs (i := kk + 1) (by rw [h1]; exact (show (1 : Nat) ≠ 0 by decide)) 1 (by omega)
          rw [HX.out, h2, h1]
          exact ⟨rfl, rfl⟩
        have HE := Lib.hid hE
        have d1 : decide ((s.size : Int) < (A : Int) + 2) = true := decide_eq_true (by omega)
        clear hE hA
        go_wp2_with fail
        refine (rimg_bad 1 s.size _).mono ?_
        rintro e w4 ⟨rfl, g4⟩
        have P4 := HS1.out.grown g4
        have qa := P4.aslot
        have qb := P4.bslot
        obtain ⟨qa0, qa1, qa2, qa3⟩ := qa
        obtain ⟨qb0, qb1, qb2, qb3, qb4⟩ := qb
        have fa0 := P4.afree 0
        have fa1 := P4.afree 1
        have fa2 := P4.afree 2
        have fa3 := P4.afree 3
        have fb0 := P4.bfree 0
        have fb1 := P4.bfree 1
        have fb2 := P4.bfree 2
        have fb3 := P4.bfree 3
        have fb4 := P4.bfree 4
        have HP4 := Lib.hid P4
        clear P4 g4 HS1 c0 c3
        go_wp2
        refine bodyPost_ret (v := .tuple #[.agg #[.int .u8 0, .int .u8 0, .int .u8 0, .int .u8 0], .agg #[.int .i64 0, .int .i64 0, .slice none 0 0, .int .i64 1, .int .i64 s.size]]) (by simp only [results, Tryz.results46]; go_simp) rfl ?_
        rw [← HQ.out]
        have hk := HHB.out
        refine ⟨?_, .inl ⟨by rw [HE.out.1]; decide, by rw [HE.out.1, HE.out.2]; rfl⟩⟩
        exact gb_own (gb_own (gb_own (gb_own (gb_own (gb_own (gb_own (gb_own (gb_own HP4.out.g (k := hb + 1) (by omega) (gb_set _ _ _ _)) (k := hb + 1) (by omega) (gb_set _ _ _ _)) (k := hb + 1) (by omega) (gb_set _ _ _ _)) (k := hb + 1) (by omega) (gb_set _ _ _ _)) (k := hb + 1 + 1) (by omega) (gb_set _ _ _ _)) (k := hb + 1 + 1) (by omega) (gb_set _ _ _ _)) (k := hb + 1 + 1) (by omega) (gb_set _ _ _ _)) (k := hb + 1 + 1) (by omega) (gb_set _ _ _ _)) (k := hb + 1 + 1) (by omega) (gb_set _ _ _ _)
      · have d1 : decide ((s.size : Int) < (A : Int) + 2) = false := decide_eq_false (by omega)
        have hcut : ∀ w, (Instr.slice 9 (.string s) (some (.int .i64 (A : Int))) (some (.int .i64 ((A : Int) + 2))) none).run Tryz.prog w = .ok (.string (s.extract A (A + 2))) w := fun w => cut_at s A 2 (by omega) w
        have hraw : rawS s m 2 A = if m < numV true (s.extract A (A + 2)) then ⟨2, A, 0, 0, 0⟩ else ⟨0, 0, A + 2, nearN (numV true (s.extract A (A + 2))) m, 0⟩ := by
          unfold rawS
          rw [if_neg hlen]
        have hzs : (s.extract A (A + 2)).size ≤ 4 := by rw [ByteArray.size_extract]; omega
        obtain ⟨z, hz⟩ : ∃ z, s.extract A (A + 2) = z := ⟨_, rfl⟩
        rw [hz] at hcut hraw hzs
        have KB := fun u => rbe_calls z u hzs
        obtain ⟨V, hV⟩ : ∃ V, numV true z = V := ⟨_, rfl⟩
        rw [hV] at KB hraw
        have KB := Lib.hid KB
        clear hz hV
        by_cases hbig : m < V
        · have hE : o.f = 2 ∧ o.p = A := by
            have h1 : rms s m 2 bs (kk + 1) = ⟨2, A, ya, yvs, yn + 0⟩ := by
              show (rms s m 2 bs kk).step _ = _
              rw [HY.out, hA, hraw, if_pos hbig, ss_fault rfl (show (2 : Nat) ≠ 0 by decide)]
            have h2 := rms_stay s m 2 bs (i := kk + 1) (by rw [h1]; exact (show (2 : Nat) ≠ 0 by decide)) 1 (by omega)
            rw [HX.out, h2, h1]
            exact ⟨rfl, rfl⟩
          have HE := Lib.hid hE
          have d3 : decide ((m : Int) < (V : Int)) = true := decide_eq_true (by omega)
          clear hE hA hraw hlen
          go_wp2_with fail
          refine (KB.out _).mono ?_
          rintro e w' ⟨rfl, rfl⟩
          go_wp2_with fail
          refine (rimg_bad 2 A _).mono ?_
          rintro e w4 ⟨rfl, g4⟩
          have P4 := HS1.out.grown g4
          have qa := P4.aslot
          have qb := P4.bslot
          obtain ⟨qa0, qa1, qa2, qa3⟩ := qa
          obtain ⟨qb0, qb1, qb2, qb3, qb4⟩ := qb
          have fa0 := P4.afree 0
          have fa1 := P4.afree 1
          have fa2 := P4.afree 2
          have fa3 := P4.afree 3
          have fb0 := P4.bfree 0
          have fb1 := P4.bfree 1
          have fb2 := P4.bfree 2
          have fb3 := P4.bfree 3
          have fb4 := P4.bfree 4
          have HP4 := Lib.hid P4
          clear P4 g4 HS1 c0 c3
          go_wp2
          refine bodyPost_ret (v := .tuple #[.agg #[.int .u8 0, .int .u8 0, .int .u8 0, .int .u8 0], .agg #[.int .i64 0, .int .i64 0, .slice none 0 0, .int .i64 2, .int .i64 A]]) (by simp only [results, Tryz.results46]; go_simp) rfl ?_
          rw [← HQ.out]
          have hk := HHB.out
          refine ⟨?_, .inl ⟨by rw [HE.out.1]; decide, by rw [HE.out.1, HE.out.2]; rfl⟩⟩
          exact gb_own (gb_own (gb_own (gb_own (gb_own (gb_own (gb_own (gb_own (gb_own HP4.out.g (k := hb + 1) (by omega) (gb_set _ _ _ _)) (k := hb + 1) (by omega) (gb_set _ _ _ _)) (k := hb + 1) (by omega) (gb_set _ _ _ _)) (k := hb + 1) (by omega) (gb_set _ _ _ _)) (k := hb + 1 + 1) (by omega) (gb_set _ _ _ _)) (k := hb + 1 + 1) (by omega) (gb_set _ _ _ _)) (k := hb + 1 + 1) (by omega) (gb_set _ _ _ _)) (k := hb + 1 + 1) (by omega) (gb_set _ _ _ _)) (k := hb + 1 + 1) (by omega) (gb_set _ _ _ _)
        · obtain ⟨y, hyv⟩ : ∃ y, nearN V m = y := ⟨_, rfl⟩
          have hy1 := nearN_is hm.1 (show V ≤ m by omega)
          have hy2 := nearN_le hm.1 (show V ≤ m by omega)
          rw [hyv] at hy1 hy2 hraw
          have KM := fun u => rmax_calls (V : Int) (m : Int) u (by omega) (by omega) (by omega) (by omega)
          rw [← hy1] at KM
          have KM := Lib.hid KM
          have h1 : rms s m 2 bs (kk + 1) = ⟨0, 0, A + 2, yvs ++ [y], yn + 0⟩ := by
            show (rms s m 2 bs kk).step _ = _
            rw [HY.out, hA, hraw, if_neg hbig, ss_yes rfl rfl]
          have HY1 := Lib.hid h1
          have d3 : decide ((m : Int) < (V : Int)) = false := decide_eq_false (by omega)
          have hlen2 : yvs.length < 1000000 := by omega
          have H255 := Lib.hid (show ∀ q, q ∈ yvs ++ [y] → q ≤ 255 from fun q hq => by
            rcases List.mem_append.1 hq with h | h
            · exact HY2.out q h
            · simp at h
              omega)
          clear h1 hy1 hy2 hyv hraw hA hlen
          go_wp2_with fail
          refine (KB.out _).mono ?_
          rintro e w' ⟨rfl, rfl⟩
          go_wp2_with fail
          refine (KM.out _).mono ?_
          rintro e w' ⟨rfl, rfl⟩
          go_wp2_with (at_builtin; refine pint_app y HS1.out hlen2 (by rfl) (by rfl) (by rfl) (by rfl) ?_)
          intro gg cap w6 hS6
          have HS6 := Lib.hid hS6
          clear hS6 HS1 c0 c3
          go_wp2_with fail
          go_roundg (1 - (kk + 1))
          case measure => omega
          case rel => exact ⟨kk + 1, _, _, by omega, rfl, by go_num, rfl, HY1.out, rfl, by simp [hyl], H255.out, HS6.out⟩
    · obtain rfl : kk = 1 := by omega
      obtain ⟨p1, rfl⟩ : ∃ x, yvs = [x] := by
        match yvs, hyl with
        | [x], _ => exact ⟨x, rfl⟩
      have hp1 := HY2.out p1 (by simp)
      have hE : o = ⟨0, yp, 0, p1, p1, p1, 0⟩ := by
        rw [HX.out, HY.out]
        rfl
      obtain ⟨lg, lc, hvl⟩ : ∃ g c, v = .slice (some ⟨g, 0, none⟩) 1 c := by
        obtain ⟨g, c, h1, _⟩ := HS1.out.own.form (by simp)
        exact ⟨g, c, h1⟩
      subst hvl
      have HE := Lib.hid hE
      have v0 := HS1.out.cell (j := 0) rfl
      have KG := Lib.hid (fun u => rgray_calls (p1 : Int) u (by omega) (by omega))
      clear hE c0 c3
      go_wp2_with fail
      refine (KG.out _).mono ?_
      rintro e w5 ⟨rfl, g5⟩
      have P5 := HS1.out.grown g5
      have qa := P5.aslot
      have qb := P5.bslot
      obtain ⟨qa0, qa1, qa2, qa3⟩ := qa
      obtain ⟨qb0, qb1, qb2, qb3, qb4⟩ := qb
      have fa0 := P5.afree 0
      have fa1 := P5.afree 1
      have fa2 := P5.afree 2
      have fa3 := P5.afree 3
      have fb0 := P5.bfree 0
      have fb1 := P5.bfree 1
      have fb2 := P5.bfree 2
      have fb3 := P5.bfree 3
      have fb4 := P5.bfree 4
      have HP5 := Lib.hid P5
      clear P5 g5 HS1
      go_wp2
      refine bodyPost_ret (v := .tuple #[.agg #[.int .u8 p1, .int .u8 p1, .int .u8 p1, .int .u8 255], .agg #[.int .i64 0, .int .i64 0, .slice none 0 0, .int .i64 0, .int .i64 0]]) (by simp only [results, Tryz.results46]; go_simp) rfl ?_
      rw [← HQ.out, HE.out]
      have hk := HHB.out
      refine ⟨?_, .inr ⟨rfl, hp1, hp1, hp1, rfl⟩⟩
      exact gb_own (gb_own (gb_own (gb_own (gb_own (gb_own (gb_own (gb_own (gb_own HP5.out.g (k := hb + 1) (by omega) (gb_set _ _ _ _)) (k := hb + 1) (by omega) (gb_set _ _ _ _)) (k := hb + 1) (by omega) (gb_set _ _ _ _)) (k := hb + 1) (by omega) (gb_set _ _ _ _)) (k := hb + 1 + 1) (by omega) (gb_set _ _ _ _)) (k := hb + 1 + 1) (by omega) (gb_set _ _ _ _)) (k := hb + 1 + 1) (by omega) (gb_set _ _ _ _)) (k := hb + 1 + 1) (by omega) (gb_set _ _ _ _)) (k := hb + 1 + 1) (by omega) (gb_set _ _ _ _)

end Go.Proofs.YtcfdippcobkbaaaGreat.Px

/- Layer 14: the document's pixel of the kind 6, samples of 1 bytes each (written by wip/gen/raw2.py). -/
namespace Go.Proofs.YtcfdippcobkbaaaGreat.Px
open Go.ChangeShapes Go.WideShapes Go.ChangeAt Go.RowKit
open Go.Proofs.YtcfdippcobkbaaaGreat.Le Go.Proofs.YtcfdippcobkbaaaGreat.Tk Go.Proofs.YtcfdippcobkbaaaGreat.Sc Go.Proofs.YtcfdippcobkbaaaGreat.Sr
set_option linter.unusedVariables false

set_option maxRecDepth 100000 in
set_option maxHeartbeats 4000000 in
theorem rpixel61_calls (s : ByteArray) (w h m a0 fr x : Nat) (fz pz : Int) (W : World) (hs : s.size ≤ 9223372036854775806) (hm : 1 ≤ m ∧ m ≤ 65535) (hm2 : m ≤ 255) (hx : x ≤ 16384) (hfr : fr ≤ 9000000000000000000) :
    Calls Tryz.prog 46 #[.string s, .agg #[.int .i64 6, .int .i64 w, .int .i64 h, .int .i64 m, .int .i64 a0, .int .i64 fz, .int .i64 pz], .int .i64 fr, .int .i64 x] W (DX W (rawX s 6 m fr x)) := by
  have hsz : sz m = 1 := if_neg (by omega)
  have hX : rawX s 6 m fr x = ⟨(rms s m 1 (fr + x * 3 * 1) 3).f, (rms s m 1 (fr + x * 3 * 1) 3).p, 0, (rms s m 1 (fr + x * 3 * 1) 3).vs.getD 0 0, (rms s m 1 (fr + x * 3 * 1) 3).vs.getD 1 0, (rms s m 1 (fr + x * 3 * 1) 3).vs.getD 2 0, 0⟩ := by
    unfold rawX
    rw [if_neg (by decide), hsz]
    rfl
  obtain ⟨bs, hbs⟩ : ∃ q, fr + x * 3 * 1 = q := ⟨_, rfl⟩
  rw [hbs] at hX
  obtain ⟨o, ho⟩ : ∃ o, rawX s 6 m fr x = o := ⟨_, rfl⟩
  rw [ho] at hX ⊢
  obtain ⟨Q, hQ⟩ : ∃ Q, DX W o = Q := ⟨_, rfl⟩
  rw [hQ]
  have HQ := Lib.hid hQ
  have HX := Lib.hid hX
  have HB0 := Lib.hid hbs
  clear ho hX hQ hsz hbs
  obtain ⟨hb, hhb⟩ : ∃ x, W.heap.size = x := ⟨_, rfl⟩
  have z1 := size_alloc W (.cells #[.int .i64 6, .int .i64 w, .int .i64 h, .int .i64 m, .int .i64 a0, .int .i64 fz, .int .i64 pz] 24)
  have z2 := size_alloc (W.alloc (.cells #[.int .i64 6, .int .i64 w, .int .i64 h, .int .i64 m, .int .i64 a0, .int .i64 fz, .int .i64 pz] 24)) (.cells #[.int .u8 0, .int .u8 0, .int .u8 0, .int .u8 0] 60)
  have z3 := size_alloc ((W.alloc (.cells #[.int .i64 6, .int .i64 w, .int .i64 h, .int .i64 m, .int .i64 a0, .int .i64 fz, .int .i64 pz] 24)).alloc (.cells #[.int .u8 0, .int .u8 0, .int .u8 0, .int .u8 0] 60)) (.cells #[.int .i64 0, .int .i64 0, .slice none 0 0, .int .i64 0, .int .i64 0] 28)
  have b1 : (W.alloc (.cells #[.int .i64 6, .int .i64 w, .int .i64 h, .int .i64 m, .int .i64 a0, .int .i64 fz, .int .i64 pz] 24)).heap[W.heap.size]? = _ := blk_at
  have b2 : ((W.alloc (.cells #[.int .i64 6, .int .i64 w, .int .i64 h, .int .i64 m, .int .i64 a0, .int .i64 fz, .int .i64 pz] 24)).alloc (.cells #[.int .u8 0, .int .u8 0, .int .u8 0, .int .u8 0] 60)).heap[(W.alloc (.cells #[.int .i64 6, .int .i64 w, .int .i64 h, .int .i64 m, .int .i64 a0, .int .i64 fz, .int .i64 pz] 24)).heap.size]? = _ := blk_at
  have b3 : (((W.alloc (.cells #[.int .i64 6, .int .i64 w, .int .i64 h, .int .i64 m, .int .i64 a0, .int .i64 fz, .int .i64 pz] 24)).alloc (.cells #[.int .u8 0, .int .u8 0, .int .u8 0, .int .u8 0] 60)).alloc (.cells #[.int .i64 0, .int .i64 0, .slice none 0 0, .int .i64 0, .int .i64 0] 28)).heap[((W.alloc (.cells #[.int .i64 6, .int .i64 w, .int .i64 h, .int .i64 m, .int .i64 a0, .int .i64 fz, .int .i64 pz] 24)).alloc (.cells #[.int .u8 0, .int .u8 0, .int .u8 0, .int .u8 0] 60)).heap.size]? = _ := blk_at
  have P0 : PI W hb (hb + 1) (hb + 1 + 1) 6 w h m a0 fz pz (hb + 1 + 1 + 1) (.slice none 0 0) [] (((W.alloc (.cells #[.int .i64 6, .int .i64 w, .int .i64 h, .int .i64 m, .int .i64 a0, .int .i64 fz, .int .i64 pz] 24)).alloc (.cells #[.int .u8 0, .int .u8 0, .int .u8 0, .int .u8 0] 60)).alloc (.cells #[.int .i64 0, .int .i64 0, .slice none 0 0, .int .i64 0, .int .i64 0] 28)) := by
    rw [z1, hhb] at b2 z2
    rw [z2] at b3 z3
    rw [hhb] at b1
    exact ⟨blk_al (blk_al b1 _) _, blk_al b2 _, b3, World.ownsRow_nil _ _ _ _, gb_trans (gb_trans (World.grownBy_alloc _ _ _) (World.grownBy_alloc _ _ _)) (World.grownBy_alloc _ _ _), by omega, by omega, by omega, by omega, by omega, by omega, by omega⟩
  have Z0 : (((W.alloc (.cells #[.int .i64 6, .int .i64 w, .int .i64 h, .int .i64 m, .int .i64 a0, .int .i64 fz, .int .i64 pz] 24)).alloc (.cells #[.int .u8 0, .int .u8 0, .int .u8 0, .int .u8 0] 60)).alloc (.cells #[.int .i64 0, .int .i64 0, .slice none 0 0, .int .i64 0, .int .i64 0] 28)).heap.size = hb + 1 + 1 + 1 := by rw [z3, z2, z1, hhb]
  have HP0 := Lib.hid P0
  have HZ0 := Lib.hid Z0
  clear z1 z2 z3 b1 b2 b3 P0 Z0
  go_enter Tryz.func46, Tryz.ntmps46
  have HHB := Lib.hid hhb
  have d0 : decide ((255 : Int) < (m : Int)) = false := decide_eq_false (by omega)
  go_wp2_with fail
  clear hhb
  generalize (((W.alloc (.cells #[.int .i64 6, .int .i64 w, .int .i64 h, .int .i64 m, .int .i64 a0, .int .i64 fz, .int .i64 pz] 24)).alloc (.cells #[.int .u8 0, .int .u8 0, .int .u8 0, .int .u8 0] 60)).alloc (.cells #[.int .i64 0, .int .i64 0, .slice none 0 0, .int .i64 0, .int .i64 0] 28)) = w1 at HP0 HZ0 ⊢
  have S0 : PI W hb (hb + 1) (hb + 1 + 1) 6 w h m a0 fz pz (hb + 1 + 1 + 1) (.slice (some ⟨hb + 1 + 1 + 1, 0, none⟩) 0 0) [] (w1.alloc (.cells #[] 3)) := by
    have hz := HZ0.out
    have hP := HP0.out.grown (World.grownBy_alloc w1 (.cells #[] 3) none)
    refine ⟨hP.fhd, hP.fra, hP.frb, ?_, hP.g, hP.hlt, hP.alt, hP.blt, hP.Wa, hP.Wb, hP.ab, hP.Bu⟩
    have h1 : (w1.alloc (.cells #[] 3)).ownsRow w1.heap.size 3 1 (.slice (some ⟨w1.heap.size, 0, none⟩) 0 0) 0 [] := World.ownsRow_made w1 #[] 0 (Nat.le_refl _) (by unfold maxLen; omega) (by simp)
    rw [hz] at h1
    exact h1
  have HS0 := Lib.hid S0
  have hz := HZ0.out
  try rw [hz]
  clear S0 HP0 HZ0 hz
  generalize w1.alloc (.cells #[] 3) = w2 at HS0 ⊢
  go_loopg [12, 13] 3 (fun q lv kv w' => ∃ (kk : Nat) (v : Value) (y : SS), kk ≤ 3 ∧ q = 3 - kk ∧ kv = .int .i64 kk ∧ v = lv ∧ rms s m 1 bs kk = y ∧ y.f = 0 ∧ y.vs.length = kk ∧ (∀ x, x ∈ y.vs → x ≤ 255) ∧ PI W hb (hb + 1) (hb + 1 + 1) 6 w h m a0 fz pz (hb + 1 + 1 + 1) v y.vs w')
  case atStart => exact ⟨0, _, _, Nat.zero_le _, rfl, rfl, rfl, rfl, rfl, rfl, (fun x hx => by cases hx), HS0.out⟩
  case round =>
    obtain ⟨kk, v, ⟨yf, yp, ya, yvs, yn⟩, hkk, rfl, rfl, rfl, hy, hyf, hyl, hy255, SI0⟩ := hrel
    obtain rfl : yf = 0 := hyf
    have HY := Lib.hid hy
    have HS1 := Lib.hid SI0
    have HY2 := Lib.hid hy255
    have hyl : yvs.length = kk := hyl
    have c0 := SI0.c0
    have c3 := SI0.c3
    clear hy SI0 HS0 hy255
    by_cases hkn : kk < 3
    · obtain ⟨A, hA⟩ : ∃ A, bs + kk * 1 = A := ⟨_, rfl⟩
      have hAI : (fr : Int) + ((x : Int) * 3 + (kk : Int)) = (A : Int) := by
        have := HB0.out
        omega
      have hA2 : A ≤ 9000000000000200000 := by omega
      by_cases hlen : s.size < A + 1
      · have hE : o.f = 1 ∧ o.p = s.size := by
          have h1 : rms s m 1 bs (kk + 1) = ⟨1, s.size, ya, yvs, yn + 0⟩ := by
            show (rms s m 1 bs kk).step _ = _
            rw [HY.out, hA]
            unfold rawS
            rw [if_pos hlen, ss_fault rfl (show (1 : Nat) ≠ 0 by decide)]
          have h2 := rms_stay s m 1 bs (i := kk + 1) (by rw [h1]; exact (show (1 : Nat) ≠ 0 by decide)) 3 (by omega)
          rw [HX.out, h2, h1]
          exact ⟨rfl, rfl⟩
        have HE := Lib.hid hE
        have d1 : decide ((s.size : Int) < (A : Int) + 1) = true := decide_eq_true (by omega)
        clear hE hA
        go_wp2_with fail
        refine (rimg_bad 1 s.size _).mono ?_
        rintro e w4 ⟨rfl, g4⟩
        have P4 := HS1.out.grown g4
        have qa := P4.aslot
        have qb := P4.bslot
        obtain ⟨qa0, qa1, qa2, qa3⟩ := qa
        obtain ⟨qb0, qb1, qb2, qb3, qb4⟩ := qb
        have fa0 := P4.afree 0
        have fa1 := P4.afree 1
        have fa2 := P4.afree 2
        have fa3 := P4.afree 3
        have fb0 := P4.bfree 0
        have fb1 := P4.bfree 1
        have fb2 := P4.bfree 2
        have fb3 := P4.bfree 3
        have fb4 := P4.bfree 4
        have HP4 := Lib.hid P4
        clear P4 g4 HS1 c0 c3
        go_wp2
        refine bodyPost_ret (v := .tuple #[.agg #[.int .u8 0, .int .u8 0, .int .u8 0, .int .u8 0], .agg #[.int .i64 0, .int .i64 0, .slice none 0 0, .int .i64 1, .int .i64 s.size]]) (by simp only [results, Tryz.results46]; go_simp) rfl ?_
        rw [← HQ.out]
        have hk := HHB.out
        refine ⟨?_, .inl ⟨by rw [HE.out.1]; decide, by rw [HE.out.1, HE.out.2]; rfl⟩⟩
        exact gb_own (gb_own (gb_own (gb_own (gb_own (gb_own (gb_own (gb_own (gb_own HP4.out.g (k := hb + 1) (by omega) (gb_set _ _ _ _)) (k := hb + 1) (by omega) (gb_set _ _ _ _)) (k := hb + 1) (by omega) (gb_set _ _ _ _)) (k := hb + 1) (by omega) (gb_set _ _ _ _)) (k := hb + 1 + 1) (by omega) (gb_set _ _ _ _)) (k := hb + 1 + 1) (by omega) (gb_set _ _ _ _)) (k := hb + 1 + 1) (by omega) (gb_set _ _ _ _)) (k := hb + 1 + 1) (by omega) (gb_set _ _ _ _)) (k := hb + 1 + 1) (by omega) (gb_set _ _ _ _)
      · have d1 : decide ((s.size : Int) < (A : Int) + 1) = false := decide_eq_false (by omega)
        have hcut : ∀ w, (Instr.slice 9 (.string s) (some (.int .i64 (A : Int))) (some (.int .i64 ((A : Int) + 1))) none).run Tryz.prog w = .ok (.string (s.extract A (A + 1))) w := fun w => cut_at s A 1 (by omega) w
        have hraw : rawS s m 1 A = if m < numV true (s.extract A (A + 1)) then ⟨2, A, 0, 0, 0⟩ else ⟨0, 0, A + 1, nearN (numV true (s.extract A (A + 1))) m, 0⟩ := by
          unfold rawS
          rw [if_neg hlen]
        have hzs : (s.extract A (A + 1)).size ≤ 4 := by rw [ByteArray.size_extract]; omega
        obtain ⟨z, hz⟩ : ∃ z, s.extract A (A + 1) = z := ⟨_, rfl⟩
        rw [hz] at hcut hraw hzs
        have KB := fun u => rbe_calls z u hzs
        obtain ⟨V, hV⟩ : ∃ V, numV true z = V := ⟨_, rfl⟩
        rw [hV] at KB hraw
        have KB := Lib.hid KB
        clear hz hV
        by_cases hbig : m < V
        · have hE : o.f = 2 ∧ o.p = A := by
            have h1 : rms s m 1 bs (kk + 1) = ⟨2, A, ya, yvs, yn + 0⟩ := by
              show (rms s m 1 bs kk).step _ = _
              rw [HY.out, hA, hraw, if_pos hbig, ss_fault rfl (show (2 : Nat) ≠ 0 by decide)]
            have h2 := rms_stay s m 1 bs (i := kk + 1) (by rw [h1]; exact (show (2 : Nat) ≠ 0 by decide)) 3 (by omega)
            rw [HX.out, h2, h1]
            exact ⟨rfl, rfl⟩
          have HE := Lib.hid hE
          have d3 : decide ((m : Int) < (V : Int)) = true := decide_eq_true (by omega)
          clear hE hA hraw hlen
          go_wp2_with fail
          refine (KB.out _).mono ?_
          rintro e w' ⟨rfl, rfl⟩
          go_wp2_with fail
          refine (rimg_bad 2 A _).mono ?_
          rintro e w4 ⟨rfl, g4⟩
          have P4 := HS1.out.grown g4
          have qa := P4.aslot
          have qb := P4.bslot
          obtain ⟨qa0, qa1, qa2, qa3⟩ := qa
          obtain ⟨qb0, qb1, qb2, qb3, qb4⟩ := qb
          have fa0 := P4.afree 0
          have fa1 := P4.afree 1
          have fa2 := P4.afree 2
          have fa3 := P4.afree 3
          have fb0 := P4.bfree 0
          have fb1 := P4.bfree 1
          have fb2 := P4.bfree 2
          have fb3 := P4.bfree 3
          have fb4 := P4.bfree 4
          have HP4 := Lib.hid P4
          clear P4 g4 HS1 c0 c3
          go_wp2
          refine bodyPost_ret (v := .tuple #[.agg #[.int .u8 0, .int .u8 0, .int .u8 0, .int .u8 0], .agg #[.int .i64 0, .int .i64 0, .slice none 0 0, .int .i64 2, .int .i64 A]]) (by simp only [results, Tryz.results46]; go_simp) rfl ?_
          rw [← HQ.out]
          have hk := HHB.out
          refine ⟨?_, .inl ⟨by rw [HE.out.1]; decide, by rw [HE.out.1, HE.out.2]; rfl⟩⟩
          exact gb_own (gb_own (gb_own (gb_own (gb_own (gb_own (gb_own (gb_own (gb_own HP4.out.g (k := hb + 1) (by omega) (gb_set _ _ _ _)) (k := hb + 1) (by omega) (gb_set _ _ _ _)) (k := hb + 1) (by omega) (gb_set _ _ _ _)) (k := hb + 1) (by omega) (gb_set _ _ _ _)) (k := hb + 1 + 1) (by omega) (gb_set _ _ _ _)) (k := hb + 1 + 1) (by omega) (gb_set _ _ _ _)) (k := hb + 1 + 1) (by omega) (gb_set _ _ _ _)) (k := hb + 1 + 1) (by omega) (gb_set _ _ _ _)) (k := hb + 1 + 1) (by omega) (gb_set _ _ _ _)
        · obtain ⟨y, hyv⟩ : ∃ y, nearN V m = y := ⟨_, rfl⟩
          have hy1 := nearN_is hm.1 (show V ≤ m by omega)
          have hy2 := nearN_le hm.1 (show V ≤ m by omega)
          rw [hyv] at hy1 hy2 hraw
          have KM := fun u => rmax_calls (V : Int) (m : Int) u (by omega) (by omega) (by omega) (by omega)
          rw [← hy1] at KM
          have KM := Lib.hid KM
          have h1 : rms s m 1 bs (kk + 1) = ⟨0, 0, A + 1, yvs ++ [y], yn + 0⟩ := by
            show (rms s m 1 bs kk).step _ = _
            rw [HY.out, hA, hraw, if_neg hbig, ss_yes rfl rfl]
          have HY1 := Lib.hid h1
          have d3 : decide ((m : Int) < (V : Int)) = false := decide_eq_false (by omega)
          have hlen2 : yvs.length < 1000000 := by omega
          have H255 := Lib.hid (show ∀ q, q ∈ yvs ++ [y] → q ≤ 255 from fun q hq => by
            rcases List.mem_append.1 hq with h | h
            · exact HY2.out q h
            · simp at h
              omega)
          clear h1 hy1 hy2 hyv hraw hA hlen
          go_wp2_with fail
          refine (KB.out _).mono ?_
          rintro e w' ⟨rfl, rfl⟩
          go_wp2_with fail
          refine (KM.out _).mono ?_
          rintro e w' ⟨rfl, rfl⟩
          go_wp2_with (at_builtin; refine pint_app y HS1.out hlen2 (by rfl) (by rfl) (by rfl) (by rfl) ?_)
          intro gg cap w6 hS6
          have HS6 := Lib.hid hS6
          clear hS6 HS1 c0 c3
          go_wp2_with fail
          go_roundg (3 - (kk + 1))
          case measure => omega
          case rel => exact ⟨kk + 1, _, _, by omega, rfl, by go_num, rfl, HY1.out, rfl, by simp [hyl], H255.out, HS6.out⟩
    · obtain rfl : kk = 3 := by omega
      obtain ⟨p1, p2, p3, rfl⟩ : ∃ x y z, yvs = [x, y, z] := by
        match yvs, hyl with
        | [x, y, z], _ => exact ⟨x, y, z, rfl⟩
      have hp1 := HY2.out p1 (by simp)
      have hp2 := HY2.out p2 (by simp)
      have hp3 := HY2.out p3 (by simp)
      have hE : o = ⟨0, yp, 0, p1, p2, p3, 0⟩ := by
        rw [HX.out, HY.out]
        rfl
      have u0 : IntKind.u8.wrap (p1 : Int) = (p1 : Int) := by rw [IntKind.wrap_u8]; omega
      have u1 : IntKind.u8.wrap (p2 : Int) = (p2 : Int) := by rw [IntKind.wrap_u8]; omega
      have u2 : IntKind.u8.wrap (p3 : Int) = (p3 : Int) := by rw [IntKind.wrap_u8]; omega
      obtain ⟨lg, lc, hvl⟩ : ∃ g c, v = .slice (some ⟨g, 0, none⟩) 3 c := by
        obtain ⟨g, c, h1, _⟩ := HS1.out.own.form (by simp)
        exact ⟨g, c, h1⟩
      subst hvl
      have HE := Lib.hid hE
      have v0 := HS1.out.cell (j := 0) rfl
      have v1 := HS1.out.cell (j := 1) rfl
      have v2 := HS1.out.cell (j := 2) rfl
      clear hE c0 c3
      have qa := HS1.out.aslot
      have qb := HS1.out.bslot
      obtain ⟨qa0, qa1, qa2, qa3⟩ := qa
      obtain ⟨qb0, qb1, qb2, qb3, qb4⟩ := qb
      have fa0 := HS1.out.afree 0
      have fa1 := HS1.out.afree 1
      have fa2 := HS1.out.afree 2
      have fa3 := HS1.out.afree 3
      have fb0 := HS1.out.bfree 0
      have fb1 := HS1.out.bfree 1
      have fb2 := HS1.out.bfree 2
      have fb3 := HS1.out.bfree 3
      have fb4 := HS1.out.bfree 4
      go_wp2
      go_region
      all_goals
        go_wp2
        refine bodyPost_ret (v := .tuple #[.agg #[.int .u8 p1, .int .u8 p2, .int .u8 p3, .int .u8 255], .agg #[.int .i64 0, .int .i64 0, .slice none 0 0, .int .i64 0, .int .i64 0]]) (by simp only [results, Tryz.results46]; go_simp) rfl ?_
        rw [← HQ.out, HE.out]
        have hk := HHB.out
        refine ⟨?_, .inr ⟨rfl, hp1, hp2, hp3, rfl⟩⟩
        exact gb_trans (gb_own (gb_own (gb_own (gb_own (gb_own (gb_own (gb_own (gb_own (gb_own HS1.out.g (k := hb + 1) (by omega) (gb_set _ _ _ _)) (k := hb + 1) (by omega) (gb_set _ _ _ _)) (k := hb + 1) (by omega) (gb_set _ _ _ _)) (k := hb + 1) (by omega) (gb_set _ _ _ _)) (k := hb + 1 + 1) (by omega) (gb_set _ _ _ _)) (k := hb + 1 + 1) (by omega) (gb_set _ _ _ _)) (k := hb + 1 + 1) (by omega) (gb_set _ _ _ _)) (k := hb + 1 + 1) (by omega) (gb_set _ _ _ _)) (k := hb + 1 + 1) (by omega) (gb_set _ _ _ _)) (gb_drew _ _)

end Go.Proofs.YtcfdippcobkbaaaGreat.Px

/- Layer 14: the document's pixel of the kind 6, samples of 2 bytes each (written by wip/gen/raw2.py). -/
namespace Go.Proofs.YtcfdippcobkbaaaGreat.Px
open Go.ChangeShapes Go.WideShapes Go.ChangeAt Go.RowKit
open Go.Proofs.YtcfdippcobkbaaaGreat.Le Go.Proofs.YtcfdippcobkbaaaGreat.Tk Go.Proofs.YtcfdippcobkbaaaGreat.Sc Go.Proofs.YtcfdippcobkbaaaGreat.Sr
set_option linter.unusedVariables false

set_option maxRecDepth 100000 in
set_option maxHeartbeats 4000000 in
theorem rpixel62_calls (s : ByteArray) (w h m a0 fr x : Nat) (fz pz : Int) (W : World) (hs : s.size ≤ 9223372036854775806) (hm : 1 ≤ m ∧ m ≤ 65535) (hm2 : 255 < m) (hx : x ≤ 16384) (hfr : fr ≤ 9000000000000000000) :
    Calls Tryz.prog 46 #[.string s, .agg #[.int .i64 6, .int .i64 w, .int .i64 h, .int .i64 m, .int .i64 a0, .int .i64 fz, .int .i64 pz], .int .i64 fr, .int .i64 x] W (DX W (rawX s 6 m fr x)) := by
  have hsz : sz m = 2 := if_pos hm2
  have hX : rawX s 6 m fr x = ⟨(rms s m 2 (fr + x * 3 * 2) 3).f, (rms s m 2 (fr + x * 3 * 2) 3).p, 0, (rms s m 2 (fr + x * 3 * 2) 3).vs.getD 0 0, (rms s m 2 (fr + x * 3 * 2) 3).vs.getD 1 0, (rms s m 2 (fr + x * 3 * 2) 3).vs.getD 2 0, 0⟩ := by
    unfold rawX
    rw [if_neg (by decide), hsz]
    rfl
  obtain ⟨bs, hbs⟩ : ∃ q, fr + x * 3 * 2 = q := ⟨_, rfl⟩
  rw [hbs] at hX
  obtain ⟨o, ho⟩ : ∃ o, rawX s 6 m fr x = o := ⟨_, rfl⟩
  rw [ho] at hX ⊢
  obtain ⟨Q, hQ⟩ : ∃ Q, DX W o = Q := ⟨_, rfl⟩
  rw [hQ]
  have HQ := Lib.hid hQ
  have HX := Lib.hid hX
  have HB0 := Lib.hid hbs
  clear ho hX hQ hsz hbs
  obtain ⟨hb, hhb⟩ : ∃ x, W.heap.size = x := ⟨_, rfl⟩
  have z1 := size_alloc W (.cells #[.int .i64 6, .int .i64 w, .int .i64 h, .int .i64 m, .int .i64 a0, .int .i64 fz, .int .i64 pz] 24)
  have z2 := size_alloc (W.alloc (.cells #[.int .i64 6, .int .i64 w, .int .i64 h, .int .i64 m, .int .i64 a0, .int .i64 fz, .int .i64 pz] 24)) (.cells #[.int .u8 0, .int .u8 0, .int .u8 0, .int .u8 0] 60)
  have z3 := size_alloc ((W.alloc (.cells #[.int .i64 6, .int .i64 w, .int .i64 h, .int .i64 m, .int .i64 a0, .int .i64 fz, .int .i64 pz] 24)).alloc (.cells #[.int .u8 0, .int .u8 0, .int .u8 0, .int .u8 0] 60)) (.cells #[.int .i64 0, .int .i64 0, .slice none 0 0, .int .i64 0, .int .i64 0] 28)
  have b1 : (W.alloc (.cells #[.int .i64 6, .int .i64 w, .int .i64 h, .int .i64 m, .int .i64 a0, .int .i64 fz, .int .i64 pz] 24)).heap[W.heap.size]? = _ := blk_at
  have b2 : ((W.alloc (.cells #[.int .i64 6, .int .i64 w, .int .i64 h, .int .i64 m, .int .i64 a0, .int .i64 fz, .int .i64 pz] 24)).alloc (.cells #[.int .u8 0, .int .u8 0, .int .u8 0, .int .u8 0] 60)).heap[(W.alloc (.cells #[.int .i64 6, .int .i64 w, .int .i64 h, .int .i64 m, .int .i64 a0, .int .i64 fz, .int .i64 pz] 24)).heap.size]? = _ := blk_at
  have b3 : (((W.alloc (.cells #[.int .i64 6, .int .i64 w, .int .i64 h, .int .i64 m, .int .i64 a0, .int .i64 fz, .int .i64 pz] 24)).alloc (.cells #[.int .u8 0, .int .u8 0, .int .u8 0, .int .u8 0] 60)).alloc (.cells #[.int .i64 0, .int .i64 0, .slice none 0 0, .int .i64 0, .int .i64 0] 28)).heap[((W.alloc (.cells #[.int .i64 6, .int .i64 w, .int .i64 h, .int .i64 m, .int .i64 a0, .int .i64 fz, .int .i64 pz] 24)).alloc (.cells #[.int .u8 0, .int .u8 0, .int .u8 0, .int .u8 0] 60)).heap.size]? = _ := blk_at
  have P0 : PI W hb (hb + 1) (hb + 1 + 1) 6 w h m a0 fz pz (hb + 1 + 1 + 1) (.slice none 0 0) [] (((W.alloc (.cells #[.int .i64 6, .int .i64 w, .int .i64 h, .int .i64 m, .int .i64 a0, .int .i64 fz, .int .i64 pz] 24)).alloc (.cells #[.int .u8 0, .int .u8 0, .int .u8 0, .int .u8 0] 60)).alloc (.cells #[.int .i64 0, .int .i64 0, .slice none 0 0, .int .i64 0, .int .i64 0] 28)) := by
    rw [z1, hhb] at b2 z2
    rw [z2] at b3 z3
    rw [hhb] at b1
    exact ⟨blk_al (blk_al b1 _) _, blk_al b2 _, b3, World.ownsRow_nil _ _ _ _, gb_trans (gb_trans (World.grownBy_alloc _ _ _) (World.grownBy_alloc _ _ _)) (World.grownBy_alloc _ _ _), by omega, by omega, by omega, by omega, by omega, by omega, by omega⟩
  have Z0 : (((W.alloc (.cells #[.int .i64 6, .int .i64 w, .int .i64 h, .int .i64 m, .int .i64 a0, .int .i64 fz, .int .i64 pz] 24)).alloc (.cells #[.int .u8 0, .int .u8 0, .int .u8 0, .int .u8 0] 60)).alloc (.cells #[.int .i64 0, .int .i64 0, .slice none 0 0, .int .i64 0, .int .i64 0] 28)).heap.size = hb + 1 + 1 + 1 := by rw [z3, z2, z1, hhb]
  have HP0 := Lib.hid P0
  have HZ0 := Lib.hid Z0
  clear z1 z2 z3 b1 b2 b3 P0 Z0
  go_enter Tryz.func46, Tryz.ntmps46
  have HHB := Lib.hid hhb
  have d0 : decide ((255 : Int) < (m : Int)) = true := decide_eq_true (by omega)
  go_wp2_with fail
  clear hhb
  generalize (((W.alloc (.cells #[.int .i64 6, .int .i64 w, .int .i64 h, .int .i64 m, .int .i64 a0, .int .i64 fz, .int .i64 pz] 24)).alloc (.cells #[.int .u8 0, .int .u8 0, .int .u8 0, .int .u8 0] 60)).alloc (.cells #[.int .i64 0, .int .i64 0, .slice none 0 0, .int .i64 0, .int .i64 0] 28)) = w1 at HP0 HZ0 ⊢
  have S0 : PI W hb (hb + 1) (hb + 1 + 1) 6 w h m a0 fz pz (hb + 1 + 1 + 1) (.slice (some ⟨hb + 1 + 1 + 1, 0, none⟩) 0 0) [] (w1.alloc (.cells #[] 3)) := by
    have hz := HZ0.out
    have hP := HP0.out.grown (World.grownBy_alloc w1 (.cells #[] 3) none)
    refine ⟨hP.fhd, hP.fra, hP.frb, ?_, hP.g, hP.hlt, hP.alt, hP.blt, hP.Wa, hP.Wb, hP.ab, hP.Bu⟩
    have h1 : (w1.alloc (.cells #[] 3)).ownsRow w1.heap.size 3 1 (.slice (some ⟨w1.heap.size, 0, none⟩) 0 0) 0 [] := World.ownsRow_made w1 #[] 0 (Nat.le_refl _) (by unfold maxLen; omega) (by simp)
    rw [hz] at h1
    exact h1
  have HS0 := Lib.hid S0
  have hz := HZ0.out
  try rw [hz]
  clear S0 HP0 HZ0 hz
  generalize w1.alloc (.cells #[] 3) = w2 at HS0 ⊢
  go_loopg [12, 13] 3 (fun q lv kv w' => ∃ (kk : Nat) (v : Value) (y : SS), kk ≤ 3 ∧ q = 3 - kk ∧ kv = .int .i64 kk ∧ v = lv ∧ rms s m 2 bs kk = y ∧ y.f = 0 ∧ y.vs.length = kk ∧ (∀ x, x ∈ y.vs → x ≤ 255) ∧ PI W hb (hb + 1) (hb + 1 + 1) 6 w h m a0 fz pz (hb + 1 + 1 + 1) v y.vs w')
  case atStart => exact ⟨0, _, _, Nat.zero_le _, rfl, rfl, rfl, rfl, rfl, rfl, (fun x hx => by cases hx), HS0.out⟩
  case round =>
    obtain ⟨kk, v, ⟨yf, yp, ya, yvs, yn⟩, hkk, rfl, rfl, rfl, hy, hyf, hyl, hy255, SI0⟩ := hrel
    obtain rfl : yf = 0 := hyf
    have HY := Lib.hid hy
    have HS1 := Lib.hid SI0
    have HY2 := Lib.hid hy255
    have hyl : yvs.length = kk := hyl
    have c0 := SI0.c0
    have c3 := SI0.c3
    clear hy SI0 HS0 hy255
    by_cases hkn : kk < 3
    · obtain ⟨A, hA⟩ : ∃ A, bs + kk * 2 = A := ⟨_, rfl⟩
      have hAI : (fr : Int) + ((x : Int) * 3 + (kk : Int)) * 2 = (A : Int) := by
        have := HB0.out
        omega
      have hA2 : A ≤ 9000000000000200000 := by omega
      by_cases hlen : s.size < A + 2
      · have hE : o.f = 1 ∧ o.p = s.size := by
          have h1 : rms s m 2 bs (kk + 1) = ⟨1, s.size, ya, yvs, yn + 0⟩ := by
            show (rms s m 2 bs kk).step _ = _
            rw [HY.out, hA]
            unfold rawS
            rw [if_pos hlen, ss_fault rfl (show (1 : Nat) ≠ 0 by decide)]
          have h2 := rms_stay s m 2 bs (i := kk + 1) (by rw [h1]; exact (show (1 : Nat) ≠ 0 by decide)) 3 (by omega)
          rw [HX.out, h2, h1]
          exact ⟨rfl, rfl⟩
        have HE := Lib.hid hE
        have d1 : decide ((s.size : Int) < (A : Int) + 2) = true := decide_eq_true (by omega)
        clear hE hA
        go_wp2_with fail
        refine (rimg_bad 1 s.size _).mono ?_
        rintro e w4 ⟨rfl, g4⟩
        have P4 := HS1.out.grown g4
        have qa := P4.aslot
        have qb := P4.bslot
        obtain ⟨qa0, qa1, qa2, qa3⟩ := qa
        obtain ⟨qb0, qb1, qb2, qb3, qb4⟩ := qb
        have fa0 := P4.afree 0
        have fa1 := P4.afree 1
        have fa2 := P4.afree 2
        have fa3 := P4.afree 3
        have fb0 := P4.bfree 0
        have fb1 := P4.bfree 1
        have fb2 := P4.bfree 2
        have fb3 := P4.bfree 3
        have fb4 := P4.bfree 4
        have HP4 := Lib.hid P4
        clear P4 g4 HS1 c0 c3
        go_wp2
        refine bodyPost_ret (v := .tuple #[.agg #[.int .u8 0, .int .u8 0, .int .u8 0, .int .u8 0], .agg #[.int .i64 0, .int .i64 0, .slice none 0 0, .int .i64 1, .int .i64 s.size]]) (by simp only [results, Tryz.results46]; go_simp) rfl ?_
        rw [← HQ.out]
        have hk := HHB.out
        refine ⟨?_, .inl ⟨by rw [HE.out.1]; decide, by rw [HE.out.1, HE.out.2]; rfl⟩⟩
        exact gb_own (gb_own (gb_own (gb_own (gb_own (gb_own (gb_own (gb_own (gb_own HP4.out.g (k := hb + 1) (by omega) (gb_set _ _ _ _)) (k := hb + 1) (by omega) (gb_set _ _ _ _)) (k := hb + 1) (by omega) (gb_set _ _ _ _)) (k := hb + 1) (by omega) (gb_set _ _ _ _)) (k := hb + 1 + 1) (by omega) (gb_set _ _ _ _)) (k := hb + 1 + 1) (by omega) (gb_set _ _ _ _)) (k := hb + 1 + 1) (by omega) (gb_set _ _ _ _)) (k := hb + 1 + 1) (by omega) (gb_set _ _ _ _)) (k := hb + 1 + 1) (by omega) (gb_set _ _ _ _)
      · have d1 : decide ((s.size : Int) < (A : Int) + 2) = false := decide_eq_false (by omega)
        have hcut : ∀ w, (Instr.slice 9 (.string s) (some (.int .i64 (A : Int))) (some (.int .i64 ((A : Int) + 2))) none).run Tryz.prog w = .ok (.string (s.extract A (A + 2))) w := fun w => cut_at s A 2 (by omega) w
        have hraw : rawS s m 2 A = if m < numV true (s.extract A (A + 2)) then ⟨2, A, 0, 0, 0⟩ else ⟨0, 0, A + 2, nearN (numV true (s.extract A (A + 2))) m, 0⟩ := by
          unfold rawS
          rw [if_neg hlen]
        have hzs : (s.extract A (A + 2)).size ≤ 4 := by rw [ByteArray.size_extract]; omega
        obtain ⟨z, hz⟩ : ∃ z, s.extract A (A + 2) = z := ⟨_, rfl⟩
        rw [hz] at hcut hraw hzs
        have KB := fun u => rbe_calls z u hzs
        obtain ⟨V, hV⟩ : ∃ V, numV true z = V := ⟨_, rfl⟩
        rw [hV] at KB hraw
        have KB := Lib.hid KB
        clear hz hV
        by_cases hbig : m < V
        · have hE : o.f = 2 ∧ o.p = A := by
            have h1 : rms s m 2 bs (kk + 1) = ⟨2, A, ya, yvs, yn + 0⟩ := by
              show (rms s m 2 bs kk).step _ = _
              rw [HY.out, hA, hraw, if_pos hbig, ss_fault rfl (show (2 : Nat) ≠ 0 by decide)]
            have h2 := rms_stay s m 2 bs (i := kk + 1) (by rw [h1]; exact (show (2 : Nat) ≠ 0 by decide)) 3 (by omega)
            rw [HX.out, h2, h1]
            exact ⟨rfl, rfl⟩
          have HE := Lib.hid hE
          have d3 : decide ((m : Int) < (V : Int)) = true := decide_eq_true (by omega)
          clear hE hA hraw hlen
          go_wp2_with fail
          refine (KB.out _).mono ?_
          rintro e w' ⟨rfl, rfl⟩
          go_wp2_with fail
          refine (rimg_bad 2 A _).mono ?_
          rintro e w4 ⟨rfl, g4⟩
          have P4 := HS1.out.grown g4
          have qa := P4.aslot
          have qb := P4.bslot
          obtain ⟨qa0, qa1, qa2, qa3⟩ := qa
          obtain ⟨qb0, qb1, qb2, qb3, qb4⟩ := qb
          have fa0 := P4.afree 0
          have fa1 := P4.afree 1
          have fa2 := P4.afree 2
          have fa3 := P4.afree 3
          have fb0 := P4.bfree 0
          have fb1 := P4.bfree 1
          have fb2 := P4.bfree 2
          have fb3 := P4.bfree 3
          have fb4 := P4.bfree 4
          have HP4 := Lib.hid P4
          clear P4 g4 HS1 c0 c3
          go_wp2
          refine bodyPost_ret (v := .tuple #[.agg #[.int .u8 0, .int .u8 0, .int .u8 0, .int .u8 0], .agg #[.int .i64 0, .int .i64 0, .slice none 0 0, .int .i64 2, .int .i64 A]]) (by simp only [results, Tryz.results46]; go_simp) rfl ?_
          rw [← HQ.out]
          have hk := HHB.out
          refine ⟨?_, .inl ⟨by rw [HE.out.1]; decide, by rw [HE.out.1, HE.out.2]; rfl⟩⟩
          exact gb_own (gb_own (gb_own (gb_own (gb_own (gb_own (gb_own (gb_own (gb_own HP4.out.g (k := hb + 1) (by omega) (gb_set _ _ _ _)) (k := hb + 1) (by omega) (gb_set _ _ _ _)) (k := hb + 1) (by omega) (gb_set _ _ _ _)) (k := hb + 1) (by omega) (gb_set _ _ _ _)) (k := hb + 1 + 1) (by omega) (gb_set _ _ _ _)) (k := hb + 1 + 1) (by omega) (gb_set _ _ _ _)) (k := hb + 1 + 1) (by omega) (gb_set _ _ _ _)) (k := hb + 1 + 1) (by omega) (gb_set _ _ _ _)) (k := hb + 1 + 1) (by omega) (gb_set _ _ _ _)
        · obtain ⟨y, hyv⟩ : ∃ y, nearN V m = y := ⟨_, rfl⟩
          have hy1 := nearN_is hm.1 (show V ≤ m by omega)
          have hy2 := nearN_le hm.1 (show V ≤ m by omega)
          rw [hyv] at hy1 hy2 hraw
          have KM := fun u => rmax_calls (V : Int) (m : Int) u (by omega) (by omega) (by omega) (by omega)
          rw [← hy1] at KM
          have KM := Lib.hid KM
          have h1 : rms s m 2 bs (kk + 1) = ⟨0, 0, A + 2, yvs ++ [y], yn + 0⟩ := by
            show (rms s m 2 bs kk).step _ = _
            rw [HY.out, hA, hraw, if_neg hbig, ss_yes rfl rfl]
          have HY1 := Lib.hid h1
          have d3 : decide ((m : Int) < (V : Int)) = false := decide_eq_false (by omega)
          have hlen2 : yvs.length < 1000000 := by omega
          have H255 := Lib.hid (show ∀ q, q ∈ yvs ++ [y] → q ≤ 255 from fun q hq => by
            rcases List.mem_append.1 hq with h | h
            · exact HY2.out q h
            · simp at h
              omega)
          clear h1 hy1 hy2 hyv hraw hA hlen
          go_wp2_with fail
          refine (KB.out _).mono ?_
          rintro e w' ⟨rfl, rfl⟩
          go_wp2_with fail
          refine (KM.out _).mono ?_
          rintro e w' ⟨rfl, rfl⟩
          go_wp2_with (at_builtin; refine pint_app y HS1.out hlen2 (by rfl) (by rfl) (by rfl) (by rfl) ?_)
          intro gg cap w6 hS6
          have HS6 := Lib.hid hS6
          clear hS6 HS1 c0 c3
          go_wp2_with fail
          go_roundg (3 - (kk + 1))
          case measure => omega
          case rel => exact ⟨kk + 1, _, _, by omega, rfl, by go_num, rfl, HY1.out, rfl, by simp [hyl], H255.out, HS6.out⟩
    · obtain rfl : kk = 3 := by omega
      obtain ⟨p1, p2, p3, rfl⟩ : ∃ x y z, yvs = [x, y, z] := by
        match yvs, hyl with
        | [x, y, z], _ => exact ⟨x, y, z, rfl⟩
      have hp1 := HY2.out p1 (by simp)
      have hp2 := HY2.out p2 (by simp)
      have hp3 := HY2.out p3 (by simp)
      have hE : o = ⟨0, yp, 0, p1, p2, p3, 0⟩ := by
        rw [HX.out, HY.out]
        rfl
      have u0 : IntKind.u8.wrap (p1 : Int) = (p1 : Int) := by rw [IntKind.wrap_u8]; omega
      have u1 : IntKind.u8.wrap (p2 : Int) = (p2 : Int) := by rw [IntKind.wrap_u8]; omega
      have u2 : IntKind.u8.wrap (p3 : Int) = (p3 : Int) := by rw [IntKind.wrap_u8]; omega
      obtain ⟨lg, lc, hvl⟩ : ∃ g c, v = .slice (some ⟨g, 0, none⟩) 3 c := by
        obtain ⟨g, c, h1, _⟩ := HS1.out.own.form (by simp)
        exact ⟨g, c, h1⟩
      subst hvl
      have HE := Lib.hid hE
      have v0 := HS1.out.cell (j := 0) rfl
      have v1 := HS1.out.cell (j := 1) rfl
      have v2 := HS1.out.cell (j := 2) rfl
      clear hE c0 c3
      have qa := HS1.out.aslot
      have qb := HS1.out.bslot
      obtain ⟨qa0, qa1, qa2, qa3⟩ := qa
      obtain ⟨qb0, qb1, qb2, qb3, qb4⟩ := qb
      have fa0 := HS1.out.afree 0
      have fa1 := HS1.out.afree 1
      have fa2 := HS1.out.afree 2
      have fa3 := HS1.out.afree 3
      have fb0 := HS1.out.bfree 0
      have fb1 := HS1.out.bfree 1
      have fb2 := HS1.out.bfree 2
      have fb3 := HS1.out.bfree 3
      have fb4 := HS1.out.bfree 4
      go_wp2
      go_region
      all_goals
        go_wp2
        refine bodyPost_ret (v := .tuple #[.agg #[.int .u8 p1, .int .u8 p2, .int .u8 p3, .int .u8 255], .agg #[.int .i64 0, .int .i64 0, .slice none 0 0, .int .i64 0, .int .i64 0]]) (by simp only [results, Tryz.results46]; go_simp) rfl ?_
        rw [← HQ.out, HE.out]
        have hk := HHB.out
        refine ⟨?_, .inr ⟨rfl, hp1, hp2, hp3, rfl⟩⟩
        exact gb_trans (gb_own (gb_own (gb_own (gb_own (gb_own (gb_own (gb_own (gb_own (gb_own HS1.out.g (k := hb + 1) (by omega) (gb_set _ _ _ _)) (k := hb + 1) (by omega) (gb_set _ _ _ _)) (k := hb + 1) (by omega) (gb_set _ _ _ _)) (k := hb + 1) (by omega) (gb_set _ _ _ _)) (k := hb + 1 + 1) (by omega) (gb_set _ _ _ _)) (k := hb + 1 + 1) (by omega) (gb_set _ _ _ _)) (k := hb + 1 + 1) (by omega) (gb_set _ _ _ _)) (k := hb + 1 + 1) (by omega) (gb_set _ _ _ _)) (k := hb + 1 + 1) (by omega) (gb_set _ _ _ _)) (gb_drew _ _)

end Go.Proofs.YtcfdippcobkbaaaGreat.Px

/- Layer 14: the document's pixel of samples; a colour put behind the list at a plain region (written by wip/gen/raw7.py). -/
namespace Go.Proofs.YtcfdippcobkbaaaGreat.Px
open Go.ChangeShapes Go.WideShapes Go.ChangeAt Go.RowKit
open Go.Proofs.YtcfdippcobkbaaaGreat.Le Go.Proofs.YtcfdippcobkbaaaGreat.Tk Go.Proofs.YtcfdippcobkbaaaGreat.Sc Go.Proofs.YtcfdippcobkbaaaGreat.Sr
set_option linter.unusedVariables false

theorem rpixel_calls (s : ByteArray) (k w h m a0 fr x : Nat) (fz pz : Int) (W : World) (hs : s.size ≤ 9223372036854775806) (hk : k = 5 ∨ k = 6) (hm : 1 ≤ m ∧ m ≤ 65535) (hx : x ≤ 16384) (hfr : fr ≤ 9000000000000000000) :
    Calls Tryz.prog 46 #[.string s, .agg #[.int .i64 k, .int .i64 w, .int .i64 h, .int .i64 m, .int .i64 a0, .int .i64 fz, .int .i64 pz], .int .i64 fr, .int .i64 x] W (DX W (rawX s k m fr x)) := by
  rcases hk with rfl | rfl
  · by_cases h2 : 255 < m
    · exact rpixel52_calls s w h m a0 fr x fz pz W hs hm h2 hx hfr
    · exact rpixel51_calls s w h m a0 fr x fz pz W hs hm (by omega) hx hfr
  · by_cases h2 : 255 < m
    · exact rpixel62_calls s w h m a0 fr x fz pz W hs hm h2 hx hfr
    · exact rpixel61_calls s w h m a0 fr x fz pz W hs hm (by omega) hx hfr

/-- A colour is put behind the list: at a plain region's. -/
theorem tcol_app {ops : Array Oper} {rest : List Oper} {o : Oper} {a : Act} {Q : Exit → Act → World → Prop} {s x : Operand} {W u : World} {hb rs ob B i : Nat} {k w h m a0 fz pz : Int} {L : Value} {l : List (Nat × Nat × Nat)} (c : Nat × Nat × Nat)
    (T : TI W hb rs ob B k w h m a0 fz pz L i l u) (hi : i < 1000000)
    (hgd : o.guard = none) (ho : o.op = .call { callee := .builtin .append, args := #[s, x], argTypes := #[26, 26] }) (hs : a.eval s = L) (hx : a.eval x = .slice (some ⟨u.heap.size, 0, none⟩) 1 1)
    (hh : ∀ g cap w', TI W hb rs ob B k w h m a0 fz pz (.slice (some ⟨g, 0, none⟩) (i + 1) cap) (i + 1) (l ++ [c]) (w'.setCell ⟨ob, 2, none⟩ (.slice (some ⟨g, 0, none⟩) (i + 1) cap)) → w'.cell? ⟨ob, 2, none⟩ = some L → w'.frozen? ⟨ob, 2, none⟩ = false →
      wpList Tryz.prog ops Q rest (a.put o.dst (.slice (some ⟨g, 0, none⟩) (i + 1) cap)) w') :
    wpList Tryz.prog ops Q (o :: rest) a (u.alloc (pcB c)) := by
  obtain ⟨i0, hi0, hz0, hz1, hz2⟩ := info_parts row_color
  refine wpList_append_lies (u.alloc (pcB c)) hgd s x 26 ho B 60 i0 _ 4 4 (by kernel_rfl) hi0 hz0 hz1 hz2 rfl (by decide) L i (cells l) hs (T.own.alloc _) ⟨u.heap.size, 0, none⟩ 1 1 (pc c) hx rfl ?_ (pc_one c) (by decide) (by unfold maxLen; omega) (by omega)
    (by rw [size_alloc]; exact Nat.le_succ_of_le T.Bu) (u.heap.size + 1) (size_alloc _ _) (fun g cap w' hown hgrow _ _ => hh g cap w' ((T.grown (World.grownBy_alloc u (pcB c) none)).app hgrow hown) ?_ ?_)
  · exact World.news_of_block (cs := #[.int .u8 (c.1 : Int), .int .u8 (c.2.1 : Int), .int .u8 (c.2.2 : Int), .int .u8 255]) (t := 60) (fr := (0, 0)) (heap_alloc_new u _)
  all_goals
    have o6 := (hgrow.block ob (Nat.lt_of_lt_of_le T.olt (Nat.le_trans T.Bu (World.grownBy_alloc u (pcB c) none).size)) (T.apart T.olt)).trans (blk_al T.fob _)
  · exact blk_cell o6 2
  · exact blk_free o6 2

end Go.Proofs.YtcfdippcobkbaaaGreat.Px

/- Layer 14: the document's Read, walked: the kinds 5 and 6 (written by wip/gen/raw7.py). -/
namespace Go.Proofs.YtcfdippcobkbaaaGreat.Px
open Go.ChangeShapes Go.WideShapes Go.ChangeAt Go.RowKit
open Go.Proofs.YtcfdippcobkbaaaGreat.Le Go.Proofs.YtcfdippcobkbaaaGreat.Tk Go.Proofs.YtcfdippcobkbaaaGreat.Sc Go.Proofs.YtcfdippcobkbaaaGreat.Sr
set_option linter.unusedVariables false

theorem rowV_le (k w m : Nat) : rowV k w m ≤ 6 * w + 7 := by
  unfold rowV
  split
  · omega
  · split <;> split <;> omega

set_option maxRecDepth 100000 in
set_option maxHeartbeats 4000000 in
theorem rraw56_calls (s : ByteArray) (k w h m a0 : Nat) (fz pz : Int) (W : World) (hs : s.size ≤ 9223372036854775806) (ha0 : a0 ≤ 1000000) (hk : k = 5 ∨ k = 6) (hw : w ≤ 1000) (hh : h ≤ 999) (hm : 1 ≤ m ∧ m ≤ 65535) :
    Calls Tryz.prog 17 #[.string s, .agg #[.int .i64 k, .int .i64 w, .int .i64 h, .int .i64 m, .int .i64 a0, .int .i64 fz, .int .i64 pz]] W (DP W w h (rxs s k m a0 (rowV k w m) w (w * h))) := by
  have KR := fun u => rrow_calls k w m (h : Int) (a0 : Int) fz pz u (by omega) (by omega) (by omega)
  have hn0 := rowV_le k w m
  obtain ⟨n, hn⟩ : ∃ n, rowV k w m = n := ⟨_, rfl⟩
  rw [hn] at KR hn0 ⊢
  clear hn
  have KR := Lib.hid KR
  obtain ⟨Q, hQ⟩ : ∃ Q, DP W w h (rxs s k m a0 n w (w * h)) = Q := ⟨_, rfl⟩
  rw [hQ]
  have HQ := Lib.hid hQ
  clear hQ
  obtain ⟨hb, hhb⟩ : ∃ x, W.heap.size = x := ⟨_, rfl⟩
  have z1 := size_alloc W (.cells #[.int .i64 k, .int .i64 w, .int .i64 h, .int .i64 m, .int .i64 a0, .int .i64 fz, .int .i64 pz] 24)
  have z2 := size_alloc (W.alloc (.cells #[.int .i64 k, .int .i64 w, .int .i64 h, .int .i64 m, .int .i64 a0, .int .i64 fz, .int .i64 pz] 24)) (.cells #[.int .i64 0, .int .i64 0, .slice none 0 0, .int .i64 0, .int .i64 0] 28)
  have z3 := size_alloc ((W.alloc (.cells #[.int .i64 k, .int .i64 w, .int .i64 h, .int .i64 m, .int .i64 a0, .int .i64 fz, .int .i64 pz] 24)).alloc (.cells #[.int .i64 0, .int .i64 0, .slice none 0 0, .int .i64 0, .int .i64 0] 28)) (.cells #[.int .i64 w, .int .i64 h, .slice none 0 0, .int .i64 0, .int .i64 0] 28)
  have b1 : (W.alloc (.cells #[.int .i64 k, .int .i64 w, .int .i64 h, .int .i64 m, .int .i64 a0, .int .i64 fz, .int .i64 pz] 24)).heap[W.heap.size]? = _ := blk_at
  have b2 : ((W.alloc (.cells #[.int .i64 k, .int .i64 w, .int .i64 h, .int .i64 m, .int .i64 a0, .int .i64 fz, .int .i64 pz] 24)).alloc (.cells #[.int .i64 0, .int .i64 0, .slice none 0 0, .int .i64 0, .int .i64 0] 28)).heap[(W.alloc (.cells #[.int .i64 k, .int .i64 w, .int .i64 h, .int .i64 m, .int .i64 a0, .int .i64 fz, .int .i64 pz] 24)).heap.size]? = _ := blk_at
  have b3 : (((W.alloc (.cells #[.int .i64 k, .int .i64 w, .int .i64 h, .int .i64 m, .int .i64 a0, .int .i64 fz, .int .i64 pz] 24)).alloc (.cells #[.int .i64 0, .int .i64 0, .slice none 0 0, .int .i64 0, .int .i64 0] 28)).alloc (.cells #[.int .i64 w, .int .i64 h, .slice none 0 0, .int .i64 0, .int .i64 0] 28)).heap[((W.alloc (.cells #[.int .i64 k, .int .i64 w, .int .i64 h, .int .i64 m, .int .i64 a0, .int .i64 fz, .int .i64 pz] 24)).alloc (.cells #[.int .i64 0, .int .i64 0, .slice none 0 0, .int .i64 0, .int .i64 0] 28)).heap.size]? = _ := blk_at
  have T0 : TI W hb (hb + 1) (hb + 1 + 1) (hb + 1 + 1 + 1) k w h m a0 fz pz (.slice none 0 0) 0 [] (((W.alloc (.cells #[.int .i64 k, .int .i64 w, .int .i64 h, .int .i64 m, .int .i64 a0, .int .i64 fz, .int .i64 pz] 24)).alloc (.cells #[.int .i64 0, .int .i64 0, .slice none 0 0, .int .i64 0, .int .i64 0] 28)).alloc (.cells #[.int .i64 w, .int .i64 h, .slice none 0 0, .int .i64 0, .int .i64 0] 28)) := by
    rw [z1, hhb] at b2 z2
    rw [z2] at b3 z3
    rw [hhb] at b1
    exact ⟨blk_al (blk_al b1 _) _, blk_al b2 _, b3, World.ownsRow_nil _ _ _ _, gb_trans (gb_trans (World.grownBy_alloc _ _ _) (World.grownBy_alloc _ _ _)) (World.grownBy_alloc _ _ _), by omega, by omega, by omega, by omega, by omega, by omega, by omega, by omega, by omega⟩
  have HT0 := Lib.hid T0
  clear z1 z2 z3 b1 b2 b3 T0
  go_enter Tryz.func17, Tryz.ntmps17
  go_wp2_with fail
  have HHB := Lib.hid hhb
  clear hhb
  refine (KR.out _).mono ?_
  rintro e w1 ⟨rfl, g1⟩
  have HT1 := Lib.hid (HT0.out.grown g1)
  clear HT0 g1 KR
  go_wp2_with fail
  go_loopg [7] h (fun q yv wr => ∃ (y : Nat) (L : Value) (z : PS), y ≤ h ∧ q = h - y ∧ yv = .int .i64 y ∧ rxs s k m a0 n w (y * w) = z ∧ z.f = 0 ∧ TI W hb (hb + 1) (hb + 1 + 1) (hb + 1 + 1 + 1) k w h m a0 fz pz L (y * w) z.l wr)
  case atStart => exact ⟨0, _, ⟨0, 0, 0, [], 0⟩, Nat.zero_le _, rfl, rfl, by rw [Nat.zero_mul]; rfl, rfl, by rw [Nat.zero_mul]; exact HT1.out⟩
  case round =>
    obtain ⟨y, L, ⟨zf, zp, za, zl, zn⟩, hyh, rfl, rfl, hz, hzf, T⟩ := hrel
    obtain rfl : zf = 0 := hzf
    obtain ⟨La, Ln, Lc, rfl⟩ := T.sl
    have HZ := Lib.hid hz
    have HT := Lib.hid T
    have c2 := T.c.2.2.1
    have c1 := T.c.2.1
    have e4 : wr.cell? ⟨hb, 4, none⟩ = some (.int .i64 a0) := blk_cell T.fhd 4
    have hlt := blk_lt T.fhd
    clear hz T HT1
    by_cases hlt2 : y < h
    · have d1 : decide ((y : Int) < (h : Int)) = true := decide_eq_true (by omega)
      have hYb : y * n ≤ 1000 * 6007 := Nat.mul_le_mul (by omega) (by omega)
      obtain ⟨Y, hY⟩ : ∃ Y, y * n = Y := ⟨_, rfl⟩
      have hYI : (y : Int) * (n : Int) = (Y : Int) := by rw [← hY]; exact (Int.natCast_mul _ _).symm
      rw [hY] at hYb
      obtain ⟨F, hF⟩ : ∃ F, a0 + Y = F := ⟨_, rfl⟩
      have hFI : (a0 : Int) + (Y : Int) = (F : Int) := by omega
      have hF9 : F ≤ 9000000000000000000 := by omega
      have HF := Lib.hid (show F = a0 + y * n by omega)
      clear hY hF
      go_wp2_with fail
      go_loopg [9] w (fun q xv wr2 => ∃ (x : Nat) (L : Value) (z : PS), x ≤ w ∧ q = w - x ∧ xv = .int .i64 x ∧ rxs s k m a0 n w (y * w + x) = z ∧ z.f = 0 ∧ TI W hb (hb + 1) (hb + 1 + 1) (hb + 1 + 1 + 1) k w h m a0 fz pz L (y * w + x) z.l wr2)
      case atStart => exact ⟨0, _, ⟨0, zp, za, zl, zn⟩, Nat.zero_le _, rfl, rfl, HZ.out, rfl, HT.out⟩
      case round =>
        clear HZ HT c1 c2 e4 hlt
        obtain ⟨x, L, ⟨zf, zp, za, zl, zn⟩, hxw, rfl, rfl, hz, hzf, T⟩ := hrel
        obtain rfl : zf = 0 := hzf
        obtain ⟨La, Ln, Lc, rfl⟩ := T.sl
        have HZ := Lib.hid hz
        have HT := Lib.hid T
        have c0 := T.c.1
        have c1 := T.c.2.1
        have c2 := T.c.2.2.1
        have c3 := T.c.2.2.2
        have c4 : wr.cell? ⟨hb, 4, none⟩ = some (.int .i64 a0) := blk_cell T.fhd 4
        have c5 : wr.cell? ⟨hb, 5, none⟩ = some (.int .i64 fz) := blk_cell T.fhd 5
        have c6 : wr.cell? ⟨hb, 6, none⟩ = some (.int .i64 pz) := blk_cell T.fhd 6
        clear hz T
        by_cases hlt3 : x < w
        · have d2 : decide ((x : Int) < (w : Int)) = true := decide_eq_true (by omega)
          have d4 : ((k : Int) == 4) = false := by rw [beq_eq_false_iff_ne]; omega
          have hle : y * w + w ≤ h * w := by
            have := Nat.mul_le_mul_right w (show y + 1 ≤ h by omega)
            rwa [Nat.succ_mul] at this
          have hle2 : h * w ≤ 999 * 1000 := Nat.mul_le_mul hh hw
          have HI1 := Lib.hid (show y * w + x < 1000000 by omega)
          have KP := fun u => rpixel_calls s k w h m a0 F x fz pz u hs hk hm (by omega) hF9
          obtain ⟨X, hX⟩ : ∃ X, rawX s k m F x = X := ⟨_, rfl⟩
          rw [hX] at KP
          obtain ⟨xf, xp, xa, xr, xg, xb, xn⟩ := X
          have HX := Lib.hid hX
          have KP := Lib.hid KP
          have HLE := Lib.hid (show y * w + x + 1 ≤ w * h by rw [Nat.mul_comm w h]; omega)
          clear hX hle hle2
          go_wp2_with fail
          refine (KP.out _).mono ?_
          rintro e w3 ⟨g3, ⟨hf, rfl⟩ | ⟨hf, h1, h2, h3, rfl⟩⟩
          · have hf : xf ≠ 0 := hf
            have T4 := ((HT.out.grown g3).grown (World.grownBy_alloc w3 (.cells #[.int .u8 0, .int .u8 0, .int .u8 0, .int .u8 0] 60) none)).grown (World.grownBy_alloc _ (.cells #[.int .i64 0, .int .i64 0, .slice none 0 0, .int .i64 xf, .int .i64 xp] 28) none)
            have hE : rxs s k m a0 n w (w * h) = ⟨xf, xp, za, zl, zn + xn⟩ := by
              have h3 : rxs s k m a0 n w (y * w + x + 1) = ⟨xf, xp, za, zl, zn + xn⟩ := by
                rw [rxs_at _ _ _ _ _ _ y hlt3, HZ.out, ← HF.out, HX.out, step_fault rfl hf]
              rw [rxs_stay s k m a0 n w (i := y * w + x + 1) (by rw [h3]; exact hf) (w * h) HLE.out, h3]
            have HE := Lib.hid hE
            have d5 : ((xf : Int) != 0) = true := by rw [bne_iff_ne]; omega
            have d6 : ((xf : Int) == 0) = false := by rw [beq_eq_false_iff_ne]; omega
            clear hE
            have q0 := T4.rc0
            have q1 := T4.rc1
            have q2 := T4.rc2
            have q3 := T4.rc3
            have q4 := T4.rc4
            have f0 := T4.rfree 0
            have f1 := T4.rfree 1
            have f2 := T4.rfree 2
            have f3 := T4.rfree 3
            have f4 := T4.rfree 4
            have HT4 := Lib.hid T4
            clear g3 HT KP T4 c0 c1 c2 c3 c4 c5 c6
            go_wp2
            refine bodyPost_ret (v := .agg #[.int .i64 0, .int .i64 0, .slice none 0 0, .int .i64 xf, .int .i64 xp]) (by simp only [results, Tryz.results17]; go_simp) rfl ?_
            rw [← HQ.out]
            refine ⟨?_, .inl ⟨by rw [HE.out]; exact hf, by rw [HE.out]⟩⟩
            have hk9 := HHB.out
            exact gb_own (gb_own (gb_own (gb_own (gb_own HT4.out.g (k := hb + 1) (by omega) (gb_set _ _ _ _)) (k := hb + 1) (by omega) (gb_set _ _ _ _)) (k := hb + 1) (by omega) (gb_set _ _ _ _)) (k := hb + 1) (by omega) (gb_set _ _ _ _)) (k := hb + 1) (by omega) (gb_set _ _ _ _)
          · have hf : xf = 0 := hf
            have T4 := ((HT.out.grown g3).grown (World.grownBy_alloc w3 (.cells #[.int .u8 xr, .int .u8 xg, .int .u8 xb, .int .u8 255] 60) none)).grown (World.grownBy_alloc _ (.cells #[.int .i64 0, .int .i64 0, .slice none 0 0, .int .i64 0, .int .i64 0] 28) none)
            have o2 := T4.oc2
            have hS : rxs s k m a0 n w (y * w + (x + 1)) = ⟨0, 0, xa, zl ++ [(xr, xg, xb)], zn + xn⟩ := by
              show rxs s k m a0 n w (y * w + x + 1) = _
              rw [rxs_at _ _ _ _ _ _ y hlt3, HZ.out, ← HF.out, HX.out, step_yes rfl hf]
            have HS := Lib.hid hS
            have HT4 := Lib.hid T4
            clear g3 HT KP T4 c0 c1 c2 c3 c4 c5 c6 hS
            go_wp2_with (at_builtin; refine tcol_app (xr, xg, xb) HT4.out HI1.out (by rfl) (by rfl) (by rfl) (by first | (rw [size_alloc, size_alloc]; rfl) | rfl) ?_)
            intro gg cap w6 hT6 o7 f7
            have HT6 := Lib.hid hT6
            clear hT6 HT4 o2
            go_wp2_with fail
            go_roundg (w - (x + 1))
            case measure => omega
            case rel => exact ⟨x + 1, _, _, by omega, rfl, by go_num, HS.out, rfl, HT6.out⟩
        · obtain rfl : w = x := by omega
          have d2 : decide ((w : Int) < (w : Int)) = false := decide_eq_false (by omega)
          go_wp2_with fail
          go_roundg (h - (y + 1))
          case measure => omega
          case rel => exact ⟨y + 1, _, ⟨0, zp, za, zl, zn⟩, by omega, rfl, by go_num, by rw [Nat.succ_mul]; exact HZ.out, rfl, by rw [Nat.succ_mul]; exact HT.out⟩
    · obtain rfl : h = y := by omega
      have d1 : decide ((h : Int) < (h : Int)) = false := decide_eq_false (by omega)
      have q0 := HT.out.oc0
      have q1 := HT.out.oc1
      have q2 := HT.out.oc2
      have q3 := HT.out.oc3
      have q4 := HT.out.oc4
      have r0 := HT.out.rc0
      have r1 := HT.out.rc1
      have r2 := HT.out.rc2
      have r3 := HT.out.rc3
      have r4 := HT.out.rc4
      have f0 := HT.out.rfree 0
      have f1 := HT.out.rfree 1
      have f2 := HT.out.rfree 2
      have f3 := HT.out.rfree 3
      have f4 := HT.out.rfree 4
      go_wp2
      refine bodyPost_ret (v := .agg #[.int .i64 w, .int .i64 h, .slice La Ln Lc, .int .i64 0, .int .i64 0]) (by simp only [results, Tryz.results17]; go_simp) rfl ?_
      rw [← HQ.out]
      have hk9 := HHB.out
      refine ⟨?_, .inr ⟨by rw [Nat.mul_comm w h, HZ.out], _, rfl, ?_⟩⟩
      · exact gb_own (gb_own (gb_own (gb_own (gb_own HT.out.g (k := hb + 1) (by omega) (gb_set _ _ _ _)) (k := hb + 1) (by omega) (gb_set _ _ _ _)) (k := hb + 1) (by omega) (gb_set _ _ _ _)) (k := hb + 1) (by omega) (gb_set _ _ _ _)) (k := hb + 1) (by omega) (gb_set _ _ _ _)
      · rw [Nat.mul_comm w h, HZ.out]
        have o5 := ownsRow_setCell_below (ownsRow_setCell_below (ownsRow_setCell_below (ownsRow_setCell_below (ownsRow_setCell_below HT.out.own (a := ⟨hb + 1, 0, none⟩) (by show hb + 1 < _; omega) (.int .i64 w)) (a := ⟨hb + 1, 1, none⟩) (by show hb + 1 < _; omega) (.int .i64 h)) (a := ⟨hb + 1, 2, none⟩) (by show hb + 1 < _; omega) (.slice La Ln Lc)) (a := ⟨hb + 1, 3, none⟩) (by show hb + 1 < _; omega) (.int .i64 0)) (a := ⟨hb + 1, 4, none⟩) (by show hb + 1 < _; omega) (.int .i64 0)
        exact o5.mono (by omega)

end Go.Proofs.YtcfdippcobkbaaaGreat.Px

/- Layer 14: the document's Read, walked: the kind 4 (written by wip/gen/raw8.py). -/
namespace Go.Proofs.YtcfdippcobkbaaaGreat.Px
open Go.ChangeShapes Go.WideShapes Go.ChangeAt Go.RowKit
open Go.Proofs.YtcfdippcobkbaaaGreat.Le Go.Proofs.YtcfdippcobkbaaaGreat.Tk Go.Proofs.YtcfdippcobkbaaaGreat.Sc Go.Proofs.YtcfdippcobkbaaaGreat.Sr
set_option linter.unusedVariables false

theorem quiet_w {P : Program} {f : FuncId} {args : Array Value} {w : World} {n : Nat} {v : Value}
    (h : Calls P f args (w.drewN n) fun e w' => e = .returned v ∧ w.drewN n = w') : Calls P f args (w.drewN n) fun e w'' => e = .returned v ∧ ∃ m, w'' = w.drewN m :=
  h.mono fun _ _ ⟨he, hm⟩ => ⟨he, n, hm.symm⟩

set_option maxRecDepth 100000 in
set_option maxHeartbeats 4000000 in
theorem rraw4_calls (s : ByteArray) (w h m a0 : Nat) (fz pz : Int) (W : World) (hs : s.size ≤ 9223372036854775806) (ha0 : a0 ≤ 1000000) (hw : w ≤ 1000) (hh : h ≤ 999) (hm : m ≤ 65535) :
    Calls Tryz.prog 17 #[.string s, .agg #[.int .i64 4, .int .i64 w, .int .i64 h, .int .i64 m, .int .i64 a0, .int .i64 fz, .int .i64 pz]] W (DP W w h (rxs s 4 m a0 (rowV 4 w m) w (w * h))) := by
  have KR := fun u => rrow_calls 4 w m (h : Int) (a0 : Int) fz pz u (by omega) (by omega) (by omega)
  have hn0 := rowV_le 4 w m
  obtain ⟨n, hn⟩ : ∃ n, rowV 4 w m = n := ⟨_, rfl⟩
  rw [hn] at KR hn0 ⊢
  clear hn
  have KR := Lib.hid KR
  obtain ⟨Q, hQ⟩ : ∃ Q, DP W w h (rxs s 4 m a0 n w (w * h)) = Q := ⟨_, rfl⟩
  rw [hQ]
  have HQ := Lib.hid hQ
  clear hQ
  obtain ⟨hb, hhb⟩ : ∃ x, W.heap.size = x := ⟨_, rfl⟩
  have z1 := size_alloc W (.cells #[.int .i64 4, .int .i64 w, .int .i64 h, .int .i64 m, .int .i64 a0, .int .i64 fz, .int .i64 pz] 24)
  have z2 := size_alloc (W.alloc (.cells #[.int .i64 4, .int .i64 w, .int .i64 h, .int .i64 m, .int .i64 a0, .int .i64 fz, .int .i64 pz] 24)) (.cells #[.int .i64 0, .int .i64 0, .slice none 0 0, .int .i64 0, .int .i64 0] 28)
  have z3 := size_alloc ((W.alloc (.cells #[.int .i64 4, .int .i64 w, .int .i64 h, .int .i64 m, .int .i64 a0, .int .i64 fz, .int .i64 pz] 24)).alloc (.cells #[.int .i64 0, .int .i64 0, .slice none 0 0, .int .i64 0, .int .i64 0] 28)) (.cells #[.int .i64 w, .int .i64 h, .slice none 0 0, .int .i64 0, .int .i64 0] 28)
  have b1 : (W.alloc (.cells #[.int .i64 4, .int .i64 w, .int .i64 h, .int .i64 m, .int .i64 a0, .int .i64 fz, .int .i64 pz] 24)).heap[W.heap.size]? = _ := blk_at
  have b2 : ((W.alloc (.cells #[.int .i64 4, .int .i64 w, .int .i64 h, .int .i64 m, .int .i64 a0, .int .i64 fz, .int .i64 pz] 24)).alloc (.cells #[.int .i64 0, .int .i64 0, .slice none 0 0, .int .i64 0, .int .i64 0] 28)).heap[(W.alloc (.cells #[.int .i64 4, .int .i64 w, .int .i64 h, .int .i64 m, .int .i64 a0, .int .i64 fz, .int .i64 pz] 24)).heap.size]? = _ := blk_at
  have b3 : (((W.alloc (.cells #[.int .i64 4, .int .i64 w, .int .i64 h, .int .i64 m, .int .i64 a0, .int .i64 fz, .int .i64 pz] 24)).alloc (.cells #[.int .i64 0, .int .i64 0, .slice none 0 0, .int .i64 0, .int .i64 0] 28)).alloc (.cells #[.int .i64 w, .int .i64 h, .slice none 0 0, .int .i64 0, .int .i64 0] 28)).heap[((W.alloc (.cells #[.int .i64 4, .int .i64 w, .int .i64 h, .int .i64 m, .int .i64 a0, .int .i64 fz, .int .i64 pz] 24)).alloc (.cells #[.int .i64 0, .int .i64 0, .slice none 0 0, .int .i64 0, .int .i64 0] 28)).heap.size]? = _ := blk_at
  have T0 : TI W hb (hb + 1) (hb + 1 + 1) (hb + 1 + 1 + 1) 4 w h m a0 fz pz (.slice none 0 0) 0 [] (((W.alloc (.cells #[.int .i64 4, .int .i64 w, .int .i64 h, .int .i64 m, .int .i64 a0, .int .i64 fz, .int .i64 pz] 24)).alloc (.cells #[.int .i64 0, .int .i64 0, .slice none 0 0, .int .i64 0, .int .i64 0] 28)).alloc (.cells #[.int .i64 w, .int .i64 h, .slice none 0 0, .int .i64 0, .int .i64 0] 28)) := by
    rw [z1, hhb] at b2 z2
    rw [z2] at b3 z3
    rw [hhb] at b1
    exact ⟨blk_al (blk_al b1 _) _, blk_al b2 _, b3, World.ownsRow_nil _ _ _ _, gb_trans (gb_trans (World.grownBy_alloc _ _ _) (World.grownBy_alloc _ _ _)) (World.grownBy_alloc _ _ _), by omega, by omega, by omega, by omega, by omega, by omega, by omega, by omega, by omega⟩
  have HT0 := Lib.hid T0
  clear z1 z2 z3 b1 b2 b3 T0
  go_enter Tryz.func17, Tryz.ntmps17
  go_wp2_with fail
  have HHB := Lib.hid hhb
  clear hhb
  refine (KR.out _).mono ?_
  rintro e w1 ⟨rfl, g1⟩
  have HT1 := Lib.hid (HT0.out.grown g1)
  clear HT0 g1 KR
  go_wp2_with fail
  go_loopg [7] h (fun q yv wr => ∃ (y : Nat) (L : Value) (z : PS), y ≤ h ∧ q = h - y ∧ yv = .int .i64 y ∧ rxs s 4 m a0 n w (y * w) = z ∧ z.f = 0 ∧ TI W hb (hb + 1) (hb + 1 + 1) (hb + 1 + 1 + 1) 4 w h m a0 fz pz L (y * w) z.l wr)
  case atStart => exact ⟨0, _, ⟨0, 0, 0, [], 0⟩, Nat.zero_le _, rfl, rfl, by rw [Nat.zero_mul]; rfl, rfl, by rw [Nat.zero_mul]; exact HT1.out⟩
  case round =>
    obtain ⟨y, L, ⟨zf, zp, za, zl, zn⟩, hyh, rfl, rfl, hz, hzf, T⟩ := hrel
    obtain rfl : zf = 0 := hzf
    obtain ⟨La, Ln, Lc, rfl⟩ := T.sl
    have HZ := Lib.hid hz
    have HT := Lib.hid T
    have c2 := T.c.2.2.1
    have c1 := T.c.2.1
    have e4 : wr.cell? ⟨hb, 4, none⟩ = some (.int .i64 a0) := blk_cell T.fhd 4
    have hlt := blk_lt T.fhd
    clear hz T HT1
    by_cases hlt2 : y < h
    · have d1 : decide ((y : Int) < (h : Int)) = true := decide_eq_true (by omega)
      have hYb : y * n ≤ 1000 * 6007 := Nat.mul_le_mul (by omega) (by omega)
      obtain ⟨Y, hY⟩ : ∃ Y, y * n = Y := ⟨_, rfl⟩
      have hYI : (y : Int) * (n : Int) = (Y : Int) := by rw [← hY]; exact (Int.natCast_mul _ _).symm
      rw [hY] at hYb
      obtain ⟨F, hF⟩ : ∃ F, a0 + Y = F := ⟨_, rfl⟩
      have hFI : (a0 : Int) + (Y : Int) = (F : Int) := by omega
      have hF9 : F ≤ 9000000000000000000 := by omega
      have HF := Lib.hid (show F = a0 + y * n by omega)
      clear hY hF
      go_wp2_with fail
      go_loopg [9] w (fun q xv wr2 => ∃ (x : Nat) (L : Value) (z : PS), x ≤ w ∧ q = w - x ∧ xv = .int .i64 x ∧ rxs s 4 m a0 n w (y * w + x) = z ∧ z.f = 0 ∧ TI W hb (hb + 1) (hb + 1 + 1) (hb + 1 + 1 + 1) 4 w h m a0 fz pz L (y * w + x) z.l wr2)
      case atStart => exact ⟨0, _, ⟨0, zp, za, zl, zn⟩, Nat.zero_le _, rfl, rfl, HZ.out, rfl, HT.out⟩
      case round =>
        clear HZ HT c1 c2 e4 hlt
        obtain ⟨x, L, ⟨zf, zp, za, zl, zn⟩, hxw, rfl, rfl, hz, hzf, T⟩ := hrel
        obtain rfl : zf = 0 := hzf
        obtain ⟨La, Ln, Lc, rfl⟩ := T.sl
        have HZ := Lib.hid hz
        have HT := Lib.hid T
        have c0 := T.c.1
        have c1 := T.c.2.1
        have c2 := T.c.2.2.1
        have c3 := T.c.2.2.2
        have c4 : wr.cell? ⟨hb, 4, none⟩ = some (.int .i64 a0) := blk_cell T.fhd 4
        have c5 : wr.cell? ⟨hb, 5, none⟩ = some (.int .i64 fz) := blk_cell T.fhd 5
        have c6 : wr.cell? ⟨hb, 6, none⟩ = some (.int .i64 pz) := blk_cell T.fhd 6
        clear hz T
        by_cases hlt3 : x < w
        · have d2 : decide ((x : Int) < (w : Int)) = true := decide_eq_true (by omega)
          have hle : y * w + w ≤ h * w := by
            have := Nat.mul_le_mul_right w (show y + 1 ≤ h by omega)
            rwa [Nat.succ_mul] at this
          have hle2 : h * w ≤ 999 * 1000 := Nat.mul_le_mul hh hw
          have HI1 := Lib.hid (show y * w + x < 1000000 by omega)
          have HLE := Lib.hid (show y * w + x + 1 ≤ w * h by rw [Nat.mul_comm w h]; omega)
          clear hle hle2
          obtain ⟨X8, hX8⟩ : ∃ X8, x / 8 = X8 := ⟨_, rfl⟩
          have hq8 : (x : Int).tdiv 8 = (X8 : Int) := by rw [Int.tdiv_eq_ediv_of_nonneg (by omega)]; omega
          obtain ⟨A, hA⟩ : ∃ A, F + X8 = A := ⟨_, rfl⟩
          have hAI : (F : Int) + (X8 : Int) = (A : Int) := by omega
          have hA9 : A ≤ 9000000000000001000 := by omega
          obtain ⟨R, hR⟩ : ∃ R, x % 8 = R := ⟨_, rfl⟩
          have hr8 : (x : Int).tmod 8 = (R : Int) := by rw [Int.tmod_eq_emod_of_nonneg (by omega)]; omega
          have HA := Lib.hid (show a0 + y * n + x / 8 = A by rw [hX8, ← HF.out]; exact hA)
          have HR := Lib.hid hR
          have hR7 : R ≤ 7 := by omega
          clear hX8 hA hR
          by_cases hat : s.size ≤ A
          · have d5 : decide ((s.size : Int) ≤ (A : Int)) = true := decide_eq_true (by omega)
            have hX : rawX s 4 m (a0 + y * n) x = ⟨1, s.size, 0, 0, 0, 0, 0⟩ := by
              unfold rawX
              rw [if_pos rfl, HA.out, if_pos hat]
            have hf : (1 : Nat) ≠ 0 := by decide
            have hE : rxs s 4 m a0 n w (w * h) = ⟨1, s.size, za, zl, zn + 0⟩ := by
              have h3 : rxs s 4 m a0 n w (y * w + x + 1) = ⟨1, s.size, za, zl, zn + 0⟩ := by
                rw [rxs_at _ _ _ _ _ _ y hlt3, HZ.out, hX, step_fault rfl hf]
              rw [rxs_stay s 4 m a0 n w (i := y * w + x + 1) (by rw [h3]; exact hf) (w * h) HLE.out, h3]
            have HE := Lib.hid hE
            clear hE hX
            go_wp2_with fail
            refine (rimg_bad 1 s.size _).mono ?_
            rintro e w3 ⟨rfl, g3⟩
            have T4 := HT.out.grown g3
            have q0 := T4.rc0
            have q1 := T4.rc1
            have q2 := T4.rc2
            have q3 := T4.rc3
            have q4 := T4.rc4
            have f0 := T4.rfree 0
            have f1 := T4.rfree 1
            have f2 := T4.rfree 2
            have f3 := T4.rfree 3
            have f4 := T4.rfree 4
            have HT4 := Lib.hid T4
            clear g3 HT T4 c0 c1 c2 c3 c4 c5 c6
            go_wp2
            refine bodyPost_ret (v := .agg #[.int .i64 0, .int .i64 0, .slice none 0 0, .int .i64 1, .int .i64 s.size]) (by simp only [results, Tryz.results17]; go_simp) rfl ?_
            rw [← HQ.out]
            refine ⟨?_, .inl ⟨by rw [HE.out]; exact hf, by rw [HE.out]; rfl⟩⟩
            have hk9 := HHB.out
            exact gb_own (gb_own (gb_own (gb_own (gb_own HT4.out.g (k := hb + 1) (by omega) (gb_set _ _ _ _)) (k := hb + 1) (by omega) (gb_set _ _ _ _)) (k := hb + 1) (by omega) (gb_set _ _ _ _)) (k := hb + 1) (by omega) (gb_set _ _ _ _)) (k := hb + 1) (by omega) (gb_set _ _ _ _)
          · have d5 : decide ((s.size : Int) ≤ (A : Int)) = false := decide_eq_false (by omega)
            have hAs : A < s.size := by omega
            obtain ⟨c, hc⟩ : ∃ c, bt s A = c := ⟨_, rfl⟩
            have hcell := bt_cell s A hAs hc
            have cl : c < 256 := by rw [← hc]; exact bt_lt s A
            obtain ⟨P, hP⟩ : ∃ P, 7 - R = P := ⟨_, rfl⟩
            have h7 : (7 : Int) - (R : Int) = (P : Int) := by omega
            have hPl := pw_le (n := P) (by omega)
            obtain ⟨D, hD⟩ : ∃ D, 2 ^ P = D := ⟨_, rfl⟩
            have hDI : pw P = (D : Int) := by unfold pw; rw [hD]
            rw [hDI] at hPl
            have KP := fun u => power_calls P u (by omega)
            rw [hDI] at KP
            have KP := Lib.hid KP
            have hD0 : ((D : Int) == 0) = false := by rw [beq_eq_false_iff_ne]; omega
            obtain ⟨V1, hV1⟩ : ∃ V1, c / D = V1 := ⟨_, rfl⟩
            have e1 : (c : Int).tdiv (D : Int) = (V1 : Int) := by rw [Int.tdiv_eq_ediv_of_nonneg (by omega), ← hV1]; exact (Int.natCast_ediv c D).symm
            have hV1l : V1 ≤ c := by rw [← hV1]; exact Nat.div_le_self c D
            obtain ⟨v, hv⟩ : ∃ v, V1 % 2 = v := ⟨_, rfl⟩
            have e2 : (V1 : Int).tmod 2 = (v : Int) := by rw [Int.tmod_eq_emod_of_nonneg (by omega)]; omega
            have hv1 : v ≤ 1 := by omega
            obtain ⟨yy, hy⟩ : ∃ y, 255 * (1 - v) = y := ⟨_, rfl⟩
            have hy255 : yy ≤ 255 := by omega
            have hyi : (255 : Int) * (1 - (v : Int)) = (yy : Int) := by omega
            have hX : rawX s 4 m (a0 + y * n) x = ⟨0, 0, 0, yy, yy, yy, 0⟩ := by
              unfold rawX
              rw [if_pos rfl, HA.out, if_neg hat, HR.out]
              unfold rawB
              rw [hc, hP, hD, hV1, hv, hy]
            have hS : rxs s 4 m a0 n w (y * w + (x + 1)) = ⟨0, 0, 0, zl ++ [(yy, yy, yy)], zn + 0⟩ := by
              show rxs s 4 m a0 n w (y * w + x + 1) = _
              rw [rxs_at _ _ _ _ _ _ y hlt3, HZ.out, hX, step_yes rfl rfl]
            have HS := Lib.hid hS
            have hw1 : IntKind.i64.wrap (1 - (v : Int)) = 1 - (v : Int) := by rw [IntKind.wrap_i64]; omega
            have hw2 : IntKind.i64.wrap (255 * (1 - (v : Int))) = (yy : Int) := by rw [hyi, IntKind.wrap_i64]; omega
            have hw3 : IntKind.i64.wrap (yy : Int) = (yy : Int) := by rw [IntKind.wrap_i64]; omega
            have hw4 : IntKind.i64.wrap ((7 : Int) - (R : Int)) = (P : Int) := by rw [h7, IntKind.wrap_i64]; omega
            have hw5 : IntKind.i64.wrap ((V1 : Int)) = (V1 : Int) := by rw [IntKind.wrap_i64]; omega
            have hw6 : IntKind.i64.wrap ((v : Int)) = (v : Int) := by rw [IntKind.wrap_i64]; omega
            have hw7 : IntKind.i64.wrap ((c : Int)) = (c : Int) := by rw [IntKind.wrap_i64]; omega
            have hw8 : IntKind.i64.wrap ((R : Int)) = (R : Int) := by rw [IntKind.wrap_i64]; omega
            have hlo : decide ((A : Int) < (s.size : Int)) = true := decide_eq_true (by omega)
            have hlo2 : (A : Int) < (s.size : Int) := by omega
            have hlo3 : (0 : Int) ≤ (A : Int) := by omega
            have KG := Lib.hid (fun u => rgray_calls (yy : Int) u (by omega) (by omega))
            clear hS hX hc hP hD hV1 hv hy hDI
            go_wp2_with fail
            go_quiet ((go_at_call 45; exact quiet_w (KP.out _)))
            go_wp2_with fail
            have HT3 := Lib.hid (HT.out.grown (gb_drewN wr nq none))
            clear HT c0 c1 c2 c3 c4 c5 c6
            generalize wr.drewN nq = w4 at HT3 ⊢
            have o2 : w4.cell? ⟨hb + 1 + 1, 2, none⟩ = some (.slice La Ln Lc) := blk_cell HT3.out.fob 2
            have HAP : hb + 1 + 1 < hb + 1 + 1 + 1 := Nat.lt_succ_self _
            go_region_law (first
              | (refine color_app (yy, yy, yy) HT5.out HI1.out (by rfl) (by rfl) (by rfl) (by rfl) ?_; intro gg cap w6 hT6 o7 f7; have HT6 := Lib.hid hT6; clear hT6)
              | (go_simp; go_at_call 32; refine (KG.out _).mono ?_; rintro e w5 ⟨rfl, g5⟩; have T5 := HT3.out.grown (gb_trans (gb_drew w4 _) g5); have o5 : w5.cell? ⟨hb + 1 + 1, 2, none⟩ = some (.slice La Ln Lc) := blk_cell T5.fob 2; have olt5 := blk_lt T5.fob; have HT5 := Lib.hid T5; clear T5 g5))
            all_goals
              go_wp2
              go_roundg (w - (x + 1))
              case measure => omega
              case rel => exact ⟨x + 1, _, _, by omega, rfl, by go_num, HS.out, rfl, HT6.out⟩
        · obtain rfl : w = x := by omega
          have d2 : decide ((w : Int) < (w : Int)) = false := decide_eq_false (by omega)
          go_wp2_with fail
          go_roundg (h - (y + 1))
          case measure => omega
          case rel => exact ⟨y + 1, _, ⟨0, zp, za, zl, zn⟩, by omega, rfl, by go_num, by rw [Nat.succ_mul]; exact HZ.out, rfl, by rw [Nat.succ_mul]; exact HT.out⟩
    · obtain rfl : h = y := by omega
      have d1 : decide ((h : Int) < (h : Int)) = false := decide_eq_false (by omega)
      have q0 := HT.out.oc0
      have q1 := HT.out.oc1
      have q2 := HT.out.oc2
      have q3 := HT.out.oc3
      have q4 := HT.out.oc4
      have r0 := HT.out.rc0
      have r1 := HT.out.rc1
      have r2 := HT.out.rc2
      have r3 := HT.out.rc3
      have r4 := HT.out.rc4
      have f0 := HT.out.rfree 0
      have f1 := HT.out.rfree 1
      have f2 := HT.out.rfree 2
      have f3 := HT.out.rfree 3
      have f4 := HT.out.rfree 4
      go_wp2
      refine bodyPost_ret (v := .agg #[.int .i64 w, .int .i64 h, .slice La Ln Lc, .int .i64 0, .int .i64 0]) (by simp only [results, Tryz.results17]; go_simp) rfl ?_
      rw [← HQ.out]
      have hk9 := HHB.out
      refine ⟨?_, .inr ⟨by rw [Nat.mul_comm w h, HZ.out], _, rfl, ?_⟩⟩
      · exact gb_own (gb_own (gb_own (gb_own (gb_own HT.out.g (k := hb + 1) (by omega) (gb_set _ _ _ _)) (k := hb + 1) (by omega) (gb_set _ _ _ _)) (k := hb + 1) (by omega) (gb_set _ _ _ _)) (k := hb + 1) (by omega) (gb_set _ _ _ _)) (k := hb + 1) (by omega) (gb_set _ _ _ _)
      · rw [Nat.mul_comm w h, HZ.out]
        have o5 := ownsRow_setCell_below (ownsRow_setCell_below (ownsRow_setCell_below (ownsRow_setCell_below (ownsRow_setCell_below HT.out.own (a := ⟨hb + 1, 0, none⟩) (by show hb + 1 < _; omega) (.int .i64 w)) (a := ⟨hb + 1, 1, none⟩) (by show hb + 1 < _; omega) (.int .i64 h)) (a := ⟨hb + 1, 2, none⟩) (by show hb + 1 < _; omega) (.slice La Ln Lc)) (a := ⟨hb + 1, 3, none⟩) (by show hb + 1 < _; omega) (.int .i64 0)) (a := ⟨hb + 1, 4, none⟩) (by show hb + 1 < _; omega) (.int .i64 0)
        exact o5.mono (by omega)

end Go.Proofs.YtcfdippcobkbaaaGreat.Px

/- Layer 15: the document's Sides, walked. -/
namespace Go.Proofs.YtcfdippcobkbaaaGreat.Px
open Go.ChangeShapes Go.WideShapes Go.ChangeAt Go.RowKit
open Go.Proofs.YtcfdippcobkbaaaGreat.Le Go.Proofs.YtcfdippcobkbaaaGreat.Tk Go.Proofs.YtcfdippcobkbaaaGreat.Sc Go.Proofs.YtcfdippcobkbaaaGreat.Ph
set_option linter.unusedVariables false

set_option maxRecDepth 100000 in
theorem rsides_calls (s : ByteArray) (W : World) (hs : s.size ≤ 9223372036854775806) :
    Calls Tryz.prog 20 #[.string s] W fun e w' => e = .returned (.tuple #[.int .i64 ((readV s).w : Int), .int .i64 ((readV s).h : Int)]) ∧ W.grownBy w' none := by
  have KR := fun u => rread_calls s u hs
  obtain ⟨⟨k, w, h, m, a, f, p⟩, hV⟩ : ∃ V, readV s = V := ⟨_, rfl⟩
  rw [hV] at KR ⊢
  have KR := Lib.hid KR
  clear hV
  go_enter Tryz.func20, Tryz.ntmps20
  go_wp2_with fail
  refine (KR.out _).mono ?_
  rintro e w1 ⟨rfl, g1⟩
  have G1 := Lib.hid (gb_trans g1 (World.grownBy_alloc w1 (.cells #[.int .i64 k, .int .i64 w, .int .i64 h, .int .i64 m, .int .i64 a, .int .i64 f, .int .i64 p] 24) none))
  have HB := blk_at (w := w1) (o := .cells #[.int .i64 k, .int .i64 w, .int .i64 h, .int .i64 m, .int .i64 a, .int .i64 f, .int .i64 p] 24)
  have HB := Lib.hid HB
  clear g1 KR
  simp only [hdA]
  go_wp2_with fail
  generalize w1.alloc (.cells #[.int .i64 k, .int .i64 w, .int .i64 h, .int .i64 m, .int .i64 a, .int .i64 f, .int .i64 p] 24) = w2 at G1 HB ⊢
  have c1 : w2.cell? ⟨w1.heap.size, 1, none⟩ = some (.int .i64 w) := blk_cell HB.out 1
  have c2 : w2.cell? ⟨w1.heap.size, 2, none⟩ = some (.int .i64 h) := blk_cell HB.out 2
  go_quiet (fail)
  go_wp2
  refine bodyPost_ret (v := .tuple #[.int .i64 w, .int .i64 h]) (by simp only [results, Tryz.results20]; go_simp) rfl ⟨rfl, gb_trans G1.out (gb_drewN _ _ none)⟩

end Go.Proofs.YtcfdippcobkbaaaGreat.Px
