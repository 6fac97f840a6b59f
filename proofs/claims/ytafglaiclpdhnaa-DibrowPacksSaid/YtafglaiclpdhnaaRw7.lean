/- Layer 21: the document's Pack, walked (written by wip/gen/rw7.py). -/
import Derived.Test.YtafglaiclpdhnaaRw8
namespace Go.Proofs.Ytafglaiclpdhnaa.Rw
open Go.ChangeShapes Go.WideShapes Go.ChangeAt Go.RowKit
open Go.Proofs.Ytafglaiclpdhnaa.Le Go.Proofs.Ytafglaiclpdhnaa.Sc
set_option linter.unusedVariables false

theorem cell_lt7 {w : World} {b o : Nat} {v : Value} (h : w.cell? ⟨b, o, none⟩ = some v) : b < w.heap.size := by
  rcases Nat.lt_or_ge b w.heap.size with h' | h'
  · exact h'
  · simp [World.cell?, Array.getElem?_eq_none h'] at h

set_option maxRecDepth 100000 in
set_option maxHeartbeats 2000000 in
theorem dpack_calls (a : Option Addr) (b off n cap d : Nat) (v : Nat → Int) (W : World) (hd : okD d) (hn : n ≤ 100) (ha : 0 < n → a = some ⟨b, off, none⟩) (hc : ∀ j, j < n → W.cell? ⟨b, off + j, none⟩ = some (.int .i64 (v j))) (hv : ∀ j, j < n → 0 ≤ v j ∧ v j < 2 ^ d) :
    Calls Try.prog 9 #[.slice a n cap, .int .i64 d] W fun e w' => e = .returned (.string (toT (rowL d n v (flN n d) (n * d)))) ∧ W.grownBy w' none := by
  have hd32 : 1 ≤ d ∧ d ≤ 32 := by rcases hd with h | h | h | h | h | h <;> omega
  have KP := Lib.hid (fun k w (h : k ≤ 32) => power_calls k w h)
  have HC := Lib.hid hc
  have HA := Lib.hid ha
  have HV := Lib.hid hv
  have HD := Lib.hid hd
  have HN := Lib.hid hn
  have J0 := Lib.hid (BO.start W d n v)
  clear hc ha hv hd
  go_enter Try.func9, Try.ntmps9
  go_wp2
  go_loopg [5, 6] n (fun q ov iv wr => ∃ (i : Nat) (o : Value), i ≤ n ∧ q = n - i ∧ iv = .int .i64 i ∧ o = ov ∧ BO W wr d n v o (i * d))
  case atStart => exact ⟨0, _, Nat.zero_le _, rfl, rfl, rfl, by rw [Nat.zero_mul]; exact J0.out⟩
  case round =>
    obtain ⟨i, o, hi, rfl, rfl, rfl, I⟩ := hrel
    have HI := Lib.hid I
    clear I J0
    by_cases hlt : i < n
    · obtain rfl := HA.out (by omega)
      have hcell := HI.out.g.cell (HC.out i hlt) (by simp)
      have hx := HV.out i hlt
      have hid : i * d ≤ 100 * 32 := Nat.mul_le_mul (by omega) hd32.2
      have HID := Lib.hid hid
      clear hid
      by_cases h8 : d < 8
      · have HBF := Lib.hid (fun c (h : c < d) => bit_low d n v h8 hlt h)
        obtain ⟨x, hxx⟩ : ∃ x, v i = x := ⟨_, rfl⟩
        have hxv := hxx
        simp only [hxx] at hcell hx HBF
        have d8 : decide ((d : Int) < 8) = true := decide_eq_true (by omega)
        have HCE := Lib.hid hcell
        have HX := Lib.hid hx
        have HXV := Lib.hid hxv
        clear hxx hxv hcell hx
        go_wp2
        go_loopg [5, 7] d (fun q ov kv wr => ∃ (c m : Nat) (o' : Value), c + m = d ∧ m = q ∧ kv = .int .i64 ((m : Int) - 1) ∧ o' = ov ∧ BO W wr d n v o' (i * d + c))
        case atStart => exact ⟨0, d, _, by omega, rfl, by go_num, rfl, HI.out⟩
        case round =>
          obtain ⟨c, m, o', hcm, rfl, rfl, rfl, T⟩ := hrel
          have HT := Lib.hid T
          clear T HI
          cases m with
          | zero =>
            obtain rfl : c = d := by omega
            go_wp2_with fail
            go_roundg (n - (i + 1))
            case measure => omega
            case rel => exact ⟨i + 1, _, by omega, rfl, by go_num, rfl, by rw [Nat.succ_mul]; exact HT.out⟩
          | succ m =>
            have e1 : ((m + 1 : Nat) : Int) - 1 = (m : Int) := by omega
            have hb := HBF.out c (by omega)
            rw [show d - 1 - c = m by omega, ← pw_two] at hb
            have hp := pw_le (n := m) (by omega)
            have KM := Lib.hid (fun w => KP.out m w (by omega))
            obtain ⟨p, hpp⟩ : ∃ p, pw m = p := ⟨_, rfl⟩
            simp only [hpp] at hb hp KM
            have hx := HX.out
            have eD : x.tdiv p = x / p := Int.tdiv_eq_ediv_of_nonneg (by omega)
            have y0 : 0 ≤ x / p := Int.ediv_nonneg hx.1 (by omega)
            have y1 : x / p ≤ x := Int.ediv_le_self _ hx.1
            obtain ⟨y, hy⟩ : ∃ y, x / p = y := ⟨_, rfl⟩
            rw [hy] at eD hb y0 y1
            have eM : y.tmod 2 = y % 2 := Int.tmod_eq_emod_of_nonneg y0
            have z0 : 0 ≤ y % 2 ∧ y % 2 ≤ 1 := by omega
            obtain ⟨z, hz⟩ : ∃ z, y % 2 = z := ⟨_, rfl⟩
            rw [hz] at eM hb z0
            have hx32 : x < 4294967296 := by
              have : (2 : Int) ^ d ≤ 4294967296 := by rcases HD.out with rfl | rfl | rfl | rfl | rfl | rfl <;> decide
              omega
            have HB := Lib.hid hb
            have hcell := HT.out.g.cell (HC.out i hlt) (by simp)
            rw [HXV.out] at hcell
            have HIDC := Lib.hid (show i * d + c ≤ 8000 by have := HID.out; omega)
            have HT2 := Lib.hid HC
            have hbb : b < wr.heap.size := cell_lt7 hcell
            have hnb : ¬ b = wr.heap.size := by omega
            have hp0 : (p == 0) = false := by rw [beq_eq_false_iff_ne]; omega
            have hp1 : ¬ p = 0 := by omega
            have hx0 := hx.1
            have hy0 := IntWalk.i64_in y (by omega)
            have hz0 := IntWalk.i64_in z (by omega)
            have hy1 : IntKind.i64.wrap (x.tdiv p) = y := by rw [eD]; exact hy0
            have hz1 : IntKind.i64.wrap (y.tmod 2) = z := by rw [eM]; exact hz0
            clear hpp hy hz hx32
            go_upto_region 9 with fail
            go_region_held3 (fun w' => w'.cell? ⟨b, off + i, none⟩ = some (.int .i64 x)) (go_keep) (first
              | (go_at_call 8; refine (KM.out _).mono ?_; rintro e w1 ⟨rfl, rfl⟩)
              | (refine bit_step z (HT.out.gb (gb_drew _ _)) HIDC.out HB.out rfl rfl rfl rfl ?_; intro o2 w2 hbo; have hcx := hbo.g.cell (HC.out i hlt) (by simp); rw [HXV.out] at hcx; have HBO := Lib.hid hbo; clear hbo))
            go_wp2_with fail
            go_roundg m
            case measure => omega
            case rel => exact ⟨c + 1, m, _, by omega, rfl, by go_num, rfl, HBO.out⟩
      · obtain ⟨R, hR⟩ : ∃ R, d / 8 = R := ⟨_, rfl⟩
        have HBF := Lib.hid (fun bb c (h : bb < R) (h2 : c < 8) => bit_high d n v (i := i) (b := bb) (k := c) (by omega) HD.out hlt (by rw [hR]; exact h) h2)
        obtain ⟨x, hxx⟩ : ∃ x, v i = x := ⟨_, rfl⟩
        have hxv := hxx
        simp only [hxx] at hcell hx HBF
        have d8 : decide ((d : Int) < 8) = false := decide_eq_false (by omega)
        have hdR : d = 8 * R := by
          have := HD.out
          unfold okD at this
          omega
        have qR : (d : Int).tdiv 8 = (R : Int) := by rw [Int.tdiv_eq_ediv_of_nonneg (by omega)]; omega
        have hR9 : (R : Int) ≤ 4 := by omega
        have wR : wrap64 (R : Int) = (R : Int) := by unfold wrap64; omega
        have wR2 := IntWalk.i64_in (R : Int) (by omega)
        have HR := Lib.hid hdR
        have HX := Lib.hid hx
        have HXV := Lib.hid hxv
        clear hxx hxv hcell hx hdR hR hR9
        go_wp2
        go_loopg [5, 8] R (fun q ov bv wr => ∃ (bb : Nat) (o' : Value), bb ≤ R ∧ q = R - bb ∧ bv = .int .i64 (bb : Int) ∧ o' = ov ∧ BO W wr d n v o' (i * d + 8 * bb))
        case atStart => exact ⟨0, _, Nat.zero_le _, rfl, rfl, rfl, HI.out⟩
        case round =>
          obtain ⟨bb, o', hbR, rfl, rfl, rfl, T⟩ := hrel
          have HT := Lib.hid T
          clear T HI
          by_cases hbl : bb < R
          · have hcell := HT.out.g.cell (HC.out i hlt) (by simp)
            rw [HXV.out] at hcell
            have hbw : b < wr.heap.size := cell_lt7 hcell
            have hnb : ¬ b = wr.heap.size := by omega
            have hR4 : R ≤ 4 := by have := HR.out; omega
            have hp := pw_le (n := 8 * bb) (by omega)
            have KM := Lib.hid (fun w => KP.out (8 * bb) w (by omega))
            have hbf := HBF.out bb
            rw [← pw_two] at hbf
            obtain ⟨p, hpp⟩ : ∃ p, pw (8 * bb) = p := ⟨_, rfl⟩
            simp only [hpp] at hbf hp KM
            have hx := HX.out
            have hx0 := hx.1
            have eD : x.tdiv p = x / p := Int.tdiv_eq_ediv_of_nonneg (by omega)
            have y0 : 0 ≤ x / p := Int.ediv_nonneg hx.1 (by omega)
            have y1 : x / p ≤ x := Int.ediv_le_self _ hx.1
            obtain ⟨y, hy⟩ : ∃ y, x / p = y := ⟨_, rfl⟩
            rw [hy] at eD y0 y1 hbf
            have eM : y.tmod 256 = y % 256 := Int.tmod_eq_emod_of_nonneg y0
            have z0 : 0 ≤ y % 256 ∧ y % 256 ≤ 255 := by omega
            obtain ⟨z, hz⟩ : ∃ z, y % 256 = z := ⟨_, rfl⟩
            rw [hz] at eM z0 hbf
            have hx32 : x < 4294967296 := by
              have : (2 : Int) ^ d ≤ 4294967296 := by rcases HD.out with rfl | rfl | rfl | rfl | rfl | rfl <;> decide
              omega
            have e8 : IntKind.i64.wrap (8 * (bb : Int)) = ((8 * bb : Nat) : Int) := by rw [IntWalk.i64_in _ (by omega)]; omega
            have hp0 : (p == 0) = false := by rw [beq_eq_false_iff_ne]; omega
            have hp1 : ¬ p = 0 := by omega
            have hy0 := IntWalk.i64_in y (by omega)
            have hz0 := IntWalk.i64_in z (by omega)
            have hy1 : IntKind.i64.wrap (x.tdiv p) = y := by rw [eD]; exact hy0
            have hz1 : IntKind.i64.wrap (y.tmod 256) = z := by rw [eM]; exact hz0
            have HBZ := Lib.hid (fun c (h : c < 8) => hbf c hbl h)
            have HZ0 := Lib.hid z0
            clear hpp hy hz hx32 hbf z0
            go_upto_region 13 with fail
            go_region_held3 (fun w' => w'.cell? ⟨b, off + i, none⟩ = some (.int .i64 x)) (go_keep) (first
              | (go_at_call 8; refine (KM.out _).mono ?_; rintro e w1 ⟨rfl, rfl⟩))
            have J2 := Lib.hid (HT.out.gb (gb_drew _ _))
            clear HT
            go_wp2
            go_loopg [5, 10] 8 (fun q ov kv wr => ∃ (c m : Nat) (o' : Value), c + m = 8 ∧ m = q ∧ kv = .int .i64 ((m : Int) - 1) ∧ o' = ov ∧ BO W wr d n v o' (i * d + (8 * bb + c)))
            case atStart => exact ⟨0, 8, _, by omega, rfl, by go_num, rfl, J2.out⟩
            case round =>
              obtain ⟨c, m, o', hcm, rfl, rfl, rfl, T⟩ := hrel
              have HT := Lib.hid T
              clear T J2 hcell
              cases m with
              | zero =>
                obtain rfl : c = 8 := by omega
                go_wp2_with fail
                go_roundg (R - (bb + 1))
                case measure => omega
                case rel => exact ⟨bb + 1, _, by omega, rfl, by go_num, rfl, by rw [show 8 * (bb + 1) = 8 * bb + 8 by omega]; exact HT.out⟩
              | succ m =>
                have e1 : ((m + 1 : Nat) : Int) - 1 = (m : Int) := by omega
                have hb := HBZ.out c (by omega)
                rw [show 7 - c = m by omega, ← pw_two] at hb
                have hp := pw_le (n := m) (by omega)
                have KM := Lib.hid (fun w => KP.out m w (by omega))
                obtain ⟨p', hpp⟩ : ∃ p, pw m = p := ⟨_, rfl⟩
                simp only [hpp] at hb hp KM
                have hz := HZ0.out
                have eD : z.tdiv p' = z / p' := Int.tdiv_eq_ediv_of_nonneg (by omega)
                have y0 : 0 ≤ z / p' := Int.ediv_nonneg hz.1 (by omega)
                have y1 : z / p' ≤ z := Int.ediv_le_self _ hz.1
                obtain ⟨y', hy⟩ : ∃ y, z / p' = y := ⟨_, rfl⟩
                rw [hy] at eD hb y0 y1
                have eM : y'.tmod 2 = y' % 2 := Int.tmod_eq_emod_of_nonneg y0
                have z0 : 0 ≤ y' % 2 ∧ y' % 2 ≤ 1 := by omega
                obtain ⟨z', hz'⟩ : ∃ z, y' % 2 = z := ⟨_, rfl⟩
                rw [hz'] at eM hb z0
                have HB := Lib.hid hb
                have HIDC := Lib.hid (show i * d + (8 * bb + c) ≤ 8000 by have := HID.out; omega)
                have hq0 : (p' == 0) = false := by rw [beq_eq_false_iff_ne]; omega
                have hq1 : ¬ p' = 0 := by omega
                have hy0' := IntWalk.i64_in y' (by omega)
                have hz0' := IntWalk.i64_in z' (by omega)
                have hy1' : IntKind.i64.wrap (z.tdiv p') = y' := by rw [eD]; exact hy0'
                have hz1' : IntKind.i64.wrap (y'.tmod 2) = z' := by rw [eM]; exact hz0'
                clear hpp hy hz' hb hz
                go_wp2_with fail
                refine (KM.out _).mono ?_
                rintro e w' ⟨rfl, rfl⟩
                go_wp2_with (at_builtin; refine bit_app z' HT.out HIDC.out HB.out rfl rfl rfl rfl ?_)
                intro o2 w2 hbo
                have HBO := Lib.hid hbo
                clear hbo HT
                go_wp2_with fail
                go_roundg m
                case measure => omega
                case rel => exact ⟨c + 1, m, _, by omega, rfl, by go_num, rfl, HBO.out⟩
          · have hT : BO W wr d n v o' ((i + 1) * d) := by
              have h := HT.out
              rw [Nat.succ_mul, HR.out]
              rw [HR.out] at h
              rwa [show bb = R by omega] at h
            have HT3 := Lib.hid hT
            have dlt : decide ((bb : Int) < (R : Int)) = false := decide_eq_false (by omega)
            have dl2 : ¬ (bb : Int) < (R : Int) := by omega
            clear hT HT hbR hbl
            go_wp2_with fail
            go_roundg (n - (i + 1))
            case measure => omega
            case rel => exact ⟨i + 1, _, by omega, rfl, by go_num, rfl, HT3.out⟩
    · have hin : i = n := by omega
      have hT : BO W wr d n v o (n * d) := by have h := HI.out; rwa [hin] at h
      obtain ⟨F, hF⟩ : ∃ F, flN n d = F := ⟨_, rfl⟩
      have hF8 : n * d ≤ 8 * F ∧ 8 * F % 32 = 0 ∧ (∀ m, n * d ≤ m → m ≤ 8 * F → m % 32 = 0 → m = 8 * F) ∧ F ≤ 1000 := by
        have hm : n * d ≤ 100 * 32 := Nat.mul_le_mul HN.out hd32.2
        unfold flN at hF
        subst hF
        refine ⟨by omega, by omega, fun m h1 h2 h3 => by omega, by omega⟩
      have HT0 := Lib.hid hT
      have HF := Lib.hid hF8
      have HFF := Lib.hid hF
      have hnd0 : ∀ m, n * d ≤ m → bitF d n v m = 0 := fun m h => by unfold bitF; rw [if_neg (by omega)]
      have HZ := Lib.hid hnd0
      have hilt : decide ((i : Int) < (n : Int)) = false := decide_eq_false (by omega)
      have hil2 : ¬ (i : Int) < (n : Int) := by omega
      clear hT hF8 hF hnd0 HI hin hi
      go_wp2_with fail
      go_loopg [5] (8 * F - n * d) (fun q ov wr => ∃ (m : Nat) (o' : Value), n * d ≤ m ∧ m ≤ 8 * F ∧ q = 8 * F - m ∧ o' = ov ∧ BO W wr d n v o' m)
      case atStart => exact ⟨n * d, _, Nat.le_refl _, HF.out.1, rfl, rfl, HT0.out⟩
      case round =>
        obtain ⟨m, o', h1, h2, rfl, rfl, T⟩ := hrel
        obtain ⟨ad, cp, rfl, hcp, hco⟩ := T.form
        have HT := Lib.hid T
        have HCO := Lib.hid hco
        have HCP := Lib.hid hcp
        clear T hco hcp HT0
        have hF := HF.out
        have hm32 : (m : Int).tmod 32 = ((m % 32 : Nat) : Int) := by rw [Int.tmod_eq_emod_of_nonneg (by omega)]; omega
        by_cases hm : m = 8 * F
        · have r1 : ((m : Int).tmod 32 != 0) = false := by rw [hm32]; have : m % 32 = 0 := by omega
                                                           rw [this]; rfl
          have r2 : (m : Int).tmod 32 = 0 := by rw [hm32]; have : m % 32 = 0 := by omega
                                                rw [this]; rfl
          have r3 : ((m : Int) % 32 != 0) = false := by have : (m : Int) % 32 = 0 := by omega
                                                        rw [this]; rfl
          obtain ⟨g, hg⟩ : ∃ g, 0 < F → ad = some ⟨g, 0, none⟩ ∧ g < wr.heap.size ∧ ∀ k, k < 8 * F → wr.cell? ⟨g, 0 + k, none⟩ = some (.int .i64 (bitF d n v k)) := by
            by_cases hF0 : 0 < F
            · obtain ⟨g, q1, q2, q3⟩ := HCO.out (by omega)
              exact ⟨g, fun _ => ⟨q1, q2, fun k hk => q3 k (by omega)⟩⟩
            · exact ⟨0, fun h => absurd h hF0⟩
          have R0 : RO W (wr.alloc (.cells #[] 5)) d n v g F wr.heap.size (.slice (some ⟨wr.heap.size, 0, none⟩) 0 0) 0 := RO.start (by have h := HT.out; rw [hm] at h; exact h) (fun h => (hg h).2.1) (fun k hk => (hg (by omega)).2.2 k hk)
          have HR0 := Lib.hid R0
          have HG := Lib.hid hg
          have HM := Lib.hid hm
          clear R0 hg HT HCO hm hm32 h1 h2 hF
          obtain ⟨B2, hB2⟩ : ∃ B2, wr.heap.size = B2 := ⟨_, rfl⟩
          simp only [hB2] at HR0
          have HB2 := Lib.hid hB2
          clear hB2
          go_wp2_with fail
          go_loopg [11, 12] F (fun q ov iv wz => ∃ (j : Nat) (t : Value), j ≤ F ∧ q = F - j ∧ iv = .int .i64 ((8 * j : Nat) : Int) ∧ t = ov ∧ RO W wz d n v g F B2 t j)
          case atStart => exact ⟨0, _, Nat.zero_le _, rfl, rfl, rfl, by rw [HB2.out]; exact HR0.out⟩
          case round =>
            obtain ⟨j, t, hj, rfl, rfl, rfl, T⟩ := hrel
            have HT := Lib.hid T
            clear T HR0
            by_cases hjF : j < F
            · obtain rfl := (HG.out (by omega)).1
              have hmm := HM.out
              have hcp := HCP.out
              obtain ⟨e, he⟩ : ∃ e, 8 * j = e := ⟨_, rfl⟩
              rw [he]
              have e0 : (0 : Int) ≤ (e : Int) := by omega
              have e1 : (e : Int) < (m : Int) := by omega
              have hF := HF.out.2.2.2
              have e2 : IntKind.i64.wrap ((e : Int) + 8) = ((e + 8 : Nat) : Int) := by rw [IntWalk.i64_in _ (by omega)]; omega
              have e3 : ((e + 8 : Nat) : Int) ≤ (cp : Int) := by omega
              have e4 : (e : Int) ≤ ((e + 8 : Nat) : Int) := by omega
              have e5 : (0 : Int) ≤ ((e + 8 : Nat) : Int) := by omega
              have HE := Lib.hid he
              have HEM := Lib.hid (show e + 8 ≤ 8 * F by omega)
              have hbp := hor_pB d n v j
              rw [he] at hbp
              have hbd := pB_bd d n v (n * d) j
              obtain ⟨z, hz⟩ : ∃ z, pB d n v (n * d) j = z := ⟨_, rfl⟩
              rw [hz] at hbp hbd
              have HPZ := Lib.hid hz
              have HBP := Lib.hid hbp
              have hz8 := IntWalk.u8_in z hbd
              have HJ4 := Lib.hid (show j ≤ 4000 by omega)
              clear hz hbp hmm hF he
              go_wp2_with fail
              refine (number8 (fun k => bitF d n v (e + k)) g e (cp - e) _ (fun k => bitF_bd d n v (e + k)) (fun k hk => by have h := HT.out.bits (e + k) (by have := HEM.out; omega); rwa [Nat.zero_add] at h)).mono ?_
              rintro e' w' ⟨rfl, rfl⟩
              rw [HBP.out]
              go_wp2_with (at_builtin; refine oct_app z HT.out HJ4.out HPZ.out rfl rfl rfl rfl ?_)
              intro o2 w2 hbo
              have HBO := Lib.hid hbo
              clear hbo HT
              go_wp2_with fail
              go_roundg (F - (j + 1))
              case measure => omega
              case rel => exact ⟨j + 1, _, by omega, rfl, by rw [show 8 * (j + 1) = e + 8 by have := HE.out; omega]; exact congrArg (Value.int .i64) (by omega), rfl, HBO.out⟩
            · have hjF2 : j = F := by omega
              have hT := HT.out
              rw [hjF2] at hT
              have hFq : toT (rowL d n v F (n * d)) = toT (rowL d n v (flN n d) (n * d)) := by rw [HFF.out]
              have hmm := HM.out
              obtain ⟨e, he⟩ : ∃ e, 8 * j = e := ⟨_, rfl⟩
              rw [he]
              have e1 : decide ((e : Int) < (m : Int)) = false := decide_eq_false (by omega)
              have e2 : ¬ (e : Int) < (m : Int) := by omega
              have cv := hT.conv
              rw [hFq] at cv
              have HGR := Lib.hid hT.gr
              clear hFq hT HT hmm he hjF2 hjF hj
              go_wp2
              go_ret
              exact ⟨rfl, HGR.out⟩
        · have r0 : m % 32 ≠ 0 := fun h => hm (hF.2.2.1 m h1 h2 h)
          have r1 : ((m : Int).tmod 32 != 0) = true := by rw [hm32, bne_iff_ne]; omega
          have r2 : ¬ (m : Int).tmod 32 = 0 := by rw [hm32]; omega
          have r3 : ((m : Int) % 32 != 0) = true := by rw [bne_iff_ne]; omega
          have hb := HZ.out m h1
          have HML := Lib.hid (show m < 8 * F by omega)
          have HM1 := Lib.hid h1
          have HB := Lib.hid hb
          have hm4 : m ≤ 8000 := by omega
          clear r0 hm hm32 hF hb
          go_wp2_with (at_builtin; refine bit_app 0 HT.out hm4 HB.out rfl rfl rfl rfl ?_)
          intro o2 w2 hbo
          have HBO := Lib.hid hbo
          clear hbo HT HCO
          go_wp2_with fail
          go_roundg (8 * F - (m + 1))
          case measure => have := HML.out; omega
          case rel => exact ⟨m + 1, _, by have := HM1.out; omega, HML.out, rfl, rfl, HBO.out⟩

end Go.Proofs.Ytafglaiclpdhnaa.Rw
