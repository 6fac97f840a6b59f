/- Texts of one kind, one behind the other: Pnh1, Pnh4, Pnh5, Pnh6, Pnh7, Hd1, Pnh3. -/
import Derived.Deep.RegionWith
import Derived.Test.YtcfdippcobkbaaaGreatG06
import Derived.Test.YtcfdippcobkbaaaGreatG09
/- Package pnmhead: what is told of kinds, sides, samples; how many bytes pixels have (written by wip/gen/pnh1.py). -/
namespace Go.Proofs.YtcfdippcobkbaaaGreat.Ph
open Go.ChangeShapes Go.WideShapes Go.ChangeAt Go.RowKit
open Go.Proofs.YtcfdippcobkbaaaGreat.Le Go.Proofs.YtcfdippcobkbaaaGreat.Sr Go.Proofs.YtcfdippcobkbaaaGreat.Tk
set_option linter.unusedVariables false

def rgB (a b x : Int) : Bool := decide (a ≤ x) && decide (x ≤ b)
theorem rgB_iff (a b x : Int) : rgB a b x = true ↔ a ≤ x ∧ x ≤ b := by simp [rgB]
theorem rgB_not (a b x : Int) : rgB a b x = false ↔ ¬ (a ≤ x ∧ x ≤ b) := by
  rw [← rgB_iff]
  simp
theorem rg_cases (a b x : Int) : (decide (a ≤ x) = false ∧ rgB a b x = false) ∨ (decide (a ≤ x) = true ∧ decide (x ≤ b) = true ∧ rgB a b x = true) ∨ (decide (a ≤ x) = true ∧ decide (x ≤ b) = false ∧ rgB a b x = false) := by
  rw [rgB_iff, rgB_not]
  by_cases h2 : a ≤ x
  · by_cases h3 : x ≤ b
    · exact .inr (.inl ⟨decide_eq_true h2, decide_eq_true h3, h2, h3⟩)
    · exact .inr (.inr ⟨decide_eq_true h2, decide_eq_false h3, fun h => h3 h.2⟩)
  · exact .inl ⟨decide_eq_false h2, fun h => h2 h.1⟩
def orB (a b x : Int) : Bool := (x == a) || (x == b)
theorem orB_iff (a b x : Int) : orB a b x = true ↔ x = a ∨ x = b := by simp [orB]
theorem orB_not (a b x : Int) : orB a b x = false ↔ ¬ (x = a ∨ x = b) := by
  rw [← orB_iff]
  simp
theorem or_cases (a b x : Int) : ((x == a) = true ∧ orB a b x = true) ∨ ((x == a) = false ∧ (x == b) = true ∧ orB a b x = true) ∨ ((x == a) = false ∧ (x == b) = false ∧ orB a b x = false) := by
  unfold orB
  cases (x == a) <;> cases (x == b) <;> simp

theorem text_calls (x : Int) (W : World) : Calls Tryz.prog 50 #[.int .i64 x] W fun e w' => e = .returned (.bool (rgB 1 3 x)) ∧ W = w' := by
  rcases rg_cases 1 3 x with ⟨d1, e⟩ | ⟨d1, d2, e⟩ | ⟨d1, d2, e⟩
  all_goals
    rw [e]
    clear e
    go_enter Tryz.func50, Tryz.ntmps50
    go_wp2
    go_ret
    exact ⟨rfl, rfl⟩

theorem isKind_calls (x : Int) (W : World) : Calls Tryz.prog 76 #[.int .i64 x] W fun e w' => e = .returned (.bool (rgB 1 6 x)) ∧ W = w' := by
  rcases rg_cases 1 6 x with ⟨d1, e⟩ | ⟨d1, d2, e⟩ | ⟨d1, d2, e⟩
  all_goals
    rw [e]
    clear e
    go_enter Tryz.func76, Tryz.ntmps76
    go_wp2
    go_ret
    exact ⟨rfl, rfl⟩

theorem isMost_calls (x : Int) (W : World) : Calls Tryz.prog 79 #[.int .i64 x] W fun e w' => e = .returned (.bool (rgB 1 65535 x)) ∧ W = w' := by
  rcases rg_cases 1 65535 x with ⟨d1, e⟩ | ⟨d1, d2, e⟩ | ⟨d1, d2, e⟩
  all_goals
    rw [e]
    clear e
    go_enter Tryz.func79, Tryz.ntmps79
    go_wp2
    go_ret
    exact ⟨rfl, rfl⟩

theorem colors_calls (x : Int) (W : World) : Calls Tryz.prog 93 #[.int .i64 x] W fun e w' => e = .returned (.bool (orB 3 6 x)) ∧ W = w' := by
  rcases or_cases 3 6 x with ⟨d1, e⟩ | ⟨d1, d2, e⟩ | ⟨d1, d2, e⟩
  all_goals
    rw [e]
    clear e
    go_enter Tryz.func93, Tryz.ntmps93
    go_wp2
    go_ret
    exact ⟨rfl, rfl⟩

theorem bitmap_calls (x : Int) (W : World) : Calls Tryz.prog 77 #[.int .i64 x] W fun e w' => e = .returned (.bool (orB 1 4 x)) ∧ W = w' := by
  rcases or_cases 1 4 x with ⟨d1, e⟩ | ⟨d1, d2, e⟩ | ⟨d1, d2, e⟩
  all_goals
    rw [e]
    clear e
    go_enter Tryz.func77, Tryz.ntmps77
    go_wp2
    go_ret
    exact ⟨rfl, rfl⟩

/-- May a head be asked? -/
def mayB (k w h m : Int) : Bool := !rgB 1 3 k && rgB 1 6 k && rgB 1 16384 w && rgB 1 16384 h && rgB 1 65535 m

end Go.Proofs.YtcfdippcobkbaaaGreat.Ph

/- Package pnmhead: the two bytes that tell the kind. -/
namespace Go.Proofs.YtcfdippcobkbaaaGreat.Ph
open Go.ChangeShapes Go.WideShapes Go.ChangeAt Go.RowKit
open Go.Proofs.YtcfdippcobkbaaaGreat.Le Go.Proofs.YtcfdippcobkbaaaGreat.Sr Go.Proofs.YtcfdippcobkbaaaGreat.Tk
set_option linter.unusedVariables false

theorem kind1_calls (b : Nat) (W : World) : Calls Tryz.prog 74 #[.int .i64 b] W fun e w' => e = .returned (.bool ((b : Int) == 80)) ∧ W = w' := by
  go_enter Tryz.func74, Tryz.ntmps74
  go_wp2
  go_ret
  exact ⟨rfl, rfl⟩
theorem kind2_calls (b : Nat) (W : World) (hb : b < 256) : Calls Tryz.prog 75 #[.int .i64 b] W fun e w' => e = .returned (.bool (rgB 1 6 ((b : Int) - 48))) ∧ W = w' := by
  have KI := Lib.hid (fun u => isKind_calls ((b : Int) - 48) u)
  go_enter Tryz.func75, Tryz.ntmps75
  go_wp2_with fail
  refine (KI.out _).mono ?_
  rintro e w' ⟨rfl, rfl⟩
  go_wp2
  go_ret
  exact ⟨rfl, rfl⟩
theorem pfault_calls (x y : Int) (W : World) : Calls Tryz.prog 80 #[.int .i64 x, .int .i64 y] W fun e w' => e = .returned (.agg #[.int .i64 x, .int .i64 3, .int .i64 y]) ∧ W.grownBy w' none := by
  go_enter Tryz.func80, Tryz.ntmps80
  go_wp2
  refine bodyPost_ret (v := .agg #[.int .i64 x, .int .i64 3, .int .i64 y]) (by simp only [results, Tryz.results80]; go_simp) rfl ⟨rfl, World.grownBy_alloc _ _ _⟩

/-- A byte, and a fault. -/
def bfT (v k f a : Int) : Value := .tuple #[.int .i64 v, .agg #[.int .i64 k, .int .i64 f, .int .i64 a]]

theorem byte_yes1 (c l : Nat) (s : ByteArray) (p : Nat) (x : St) (W : World) (h : Rd c l s p x W) (hr : x.r = 0) (hk : x.st + 1 ≤ x.s) (hp : p < s.size)
    (KM : ∀ u, Calls Tryz.prog 74 #[.int .i64 (bt s p)] u fun e w' => e = .returned (.bool true) ∧ u = w') :
    Calls Tryz.prog 73 #[.pointer (some ⟨c, 0, none⟩), .func (.func 74) #[] #[]] W fun e w' =>
      e = .returned (bfT (bt s p) 0 0 0) ∧ Rd c l s (p + 1) (stp x 1) w' ∧ Tn W w' [c, l] := by
  have hcw := h.clt
  have hlw := h.llt
  have hF0 := Fl.new W
  have hT0 : Tn W (W.alloc (.cells #[.int .i64 0, .int .i64 0, .int .i64 0] 34)) [c, l] := Tn.gb (World.grownBy_alloc _ _ none) (by simp)
  have KU := u8_byte c l s p x _ (h.grown (World.grownBy_alloc W (.cells #[.int .i64 0, .int .i64 0, .int .i64 0] 34) none)) hr hk hp
  obtain ⟨y, hy⟩ : ∃ y, bt s p = y := ⟨_, rfl⟩
  rw [hy] at KU KM ⊢
  have KU := Lib.hid KU
  have KM := Lib.hid KM
  have HF0 := Lib.hid hF0
  have HT0 := Lib.hid hT0
  obtain ⟨r, hrw⟩ : ∃ r, W.heap.size = r := ⟨_, rfl⟩
  have hrc : r ≠ c := by omega
  have hrl : r ≠ l := by omega
  have HRW := Lib.hid hrw
  have HNI : r ∉ [c, l] := by simp [hrc, hrl]
  have HC := Lib.hid hrc
  have HL := Lib.hid hrl
  clear h hr hF0 hT0 hcw hlw hrc hrl hy
  go_enter Tryz.func73, Tryz.ntmps73
  go_wp2_with fail
  rw [HRW.out] at HF0
  refine KU.out.mono ?_
  rintro e w1 ⟨rfl, R1, T1⟩
  have F9 : Fl r 0 0 0 w1 := HF0.out.turned T1 HNI
  have q0 := F9.c0
  have q1 := F9.c1
  have q2 := F9.c2
  have f0 := F9.free 0
  have f1 := F9.free 1
  have f2 := F9.free 2
  have HR9 := Lib.hid R1
  have HT9 := Lib.hid (HT0.out.trans T1)
  clear R1 T1 KU F9 hrw
  go_wp2_with fail
  refine (KM.out _).mono ?_
  rintro e w' ⟨rfl, rfl⟩
  go_wp2
  exact bodyPost_ret (v := bfT y 0 0 0) (by simp only [results, Tryz.results73, bfT]; go_simp) rfl ⟨rfl, HR9.out.st3 HC.out HL.out, Tn.own3 HT9.out HRW.out⟩

theorem byte_yes2 (c l : Nat) (s : ByteArray) (p : Nat) (x : St) (W : World) (h : Rd c l s p x W) (hr : x.r = 0) (hk : x.st + 1 ≤ x.s) (hp : p < s.size)
    (KM : ∀ u, Calls Tryz.prog 75 #[.int .i64 (bt s p)] u fun e w' => e = .returned (.bool true) ∧ u = w') :
    Calls Tryz.prog 73 #[.pointer (some ⟨c, 0, none⟩), .func (.func 75) #[] #[]] W fun e w' =>
      e = .returned (bfT (bt s p) 0 0 0) ∧ Rd c l s (p + 1) (stp x 1) w' ∧ Tn W w' [c, l] := by
  have hcw := h.clt
  have hlw := h.llt
  have hF0 := Fl.new W
  have hT0 : Tn W (W.alloc (.cells #[.int .i64 0, .int .i64 0, .int .i64 0] 34)) [c, l] := Tn.gb (World.grownBy_alloc _ _ none) (by simp)
  have KU := u8_byte c l s p x _ (h.grown (World.grownBy_alloc W (.cells #[.int .i64 0, .int .i64 0, .int .i64 0] 34) none)) hr hk hp
  obtain ⟨y, hy⟩ : ∃ y, bt s p = y := ⟨_, rfl⟩
  rw [hy] at KU KM ⊢
  have KU := Lib.hid KU
  have KM := Lib.hid KM
  have HF0 := Lib.hid hF0
  have HT0 := Lib.hid hT0
  obtain ⟨r, hrw⟩ : ∃ r, W.heap.size = r := ⟨_, rfl⟩
  have hrc : r ≠ c := by omega
  have hrl : r ≠ l := by omega
  have HRW := Lib.hid hrw
  have HNI : r ∉ [c, l] := by simp [hrc, hrl]
  have HC := Lib.hid hrc
  have HL := Lib.hid hrl
  clear h hr hF0 hT0 hcw hlw hrc hrl hy
  go_enter Tryz.func73, Tryz.ntmps73
  go_wp2_with fail
  rw [HRW.out] at HF0
  refine KU.out.mono ?_
  rintro e w1 ⟨rfl, R1, T1⟩
  have F9 : Fl r 0 0 0 w1 := HF0.out.turned T1 HNI
  have q0 := F9.c0
  have q1 := F9.c1
  have q2 := F9.c2
  have f0 := F9.free 0
  have f1 := F9.free 1
  have f2 := F9.free 2
  have HR9 := Lib.hid R1
  have HT9 := Lib.hid (HT0.out.trans T1)
  clear R1 T1 KU F9 hrw
  go_wp2_with fail
  refine (KM.out _).mono ?_
  rintro e w' ⟨rfl, rfl⟩
  go_wp2
  exact bodyPost_ret (v := bfT y 0 0 0) (by simp only [results, Tryz.results73, bfT]; go_simp) rfl ⟨rfl, HR9.out.st3 HC.out HL.out, Tn.own3 HT9.out HRW.out⟩

theorem byte_bad1 (c l : Nat) (s : ByteArray) (p : Nat) (x : St) (W : World) (h : Rd c l s p x W) (hr : x.r = 0) (hk : x.st + 1 ≤ x.s) (hp : p < s.size)
    (KM : ∀ u, Calls Tryz.prog 74 #[.int .i64 (bt s p)] u fun e w' => e = .returned (.bool false) ∧ u = w') :
    Calls Tryz.prog 73 #[.pointer (some ⟨c, 0, none⟩), .func (.func 74) #[] #[]] W fun e w' =>
      e = .returned (bfT 0 2 3 p) ∧ Rd c l s (p + 1) (stp x 1) w' ∧ Tn W w' [c, l] := by
  have hcw := h.clt
  have hlw := h.llt
  have hbig := h.so.big
  have hF0 := Fl.new W
  have hT0 : Tn W (W.alloc (.cells #[.int .i64 0, .int .i64 0, .int .i64 0] 34)) [c, l] := Tn.gb (World.grownBy_alloc _ _ none) (by simp)
  have KU := u8_byte c l s p x _ (h.grown (World.grownBy_alloc W (.cells #[.int .i64 0, .int .i64 0, .int .i64 0] 34) none)) hr hk hp
  obtain ⟨y, hy⟩ : ∃ y, bt s p = y := ⟨_, rfl⟩
  rw [hy] at KU KM
  have KU := Lib.hid KU
  have KM := Lib.hid KM
  have HF0 := Lib.hid hF0
  have HT0 := Lib.hid hT0
  obtain ⟨r, hrw⟩ : ∃ r, W.heap.size = r := ⟨_, rfl⟩
  have hrc : r ≠ c := by omega
  have hrl : r ≠ l := by omega
  have HRW := Lib.hid hrw
  have HNI : r ∉ [c, l] := by simp [hrc, hrl]
  have HC := Lib.hid hrc
  have HL := Lib.hid hrl
  have hpe : (((p + 1 : Nat) : Int) - 1) = p := by omega
  clear h hr hF0 hT0 hcw hlw hrc hrl hy
  go_enter Tryz.func73, Tryz.ntmps73
  go_wp2_with fail
  rw [HRW.out] at HF0
  refine KU.out.mono ?_
  rintro e w1 ⟨rfl, R1, T1⟩
  have KA := Lib.hid (at_rd c l s (p + 1) _ w1 R1)
  have HR1 := Lib.hid R1
  have HT1 := Lib.hid (HT0.out.trans T1)
  have HF1 := Lib.hid (HF0.out.turned T1 HNI)
  clear R1 T1 KU hrw
  go_wp2_with fail
  refine (KM.out _).mono ?_
  rintro e w' ⟨rfl, rfl⟩
  go_wp2_with fail
  refine KA.out.mono ?_
  rintro e w' ⟨rfl, rfl⟩
  go_wp2_with fail
  refine (pfault_calls 2 p _).mono ?_
  rintro e w4 ⟨rfl, g4⟩
  have F9 : Fl r 0 0 0 w4 := HF1.out.turned (Tn.gb g4 (S := [c, l]) (by simp)) HNI
  have q0 := F9.c0
  have q1 := F9.c1
  have q2 := F9.c2
  have f0 := F9.free 0
  have f1 := F9.free 1
  have f2 := F9.free 2
  have HR9 := Lib.hid (HR1.out.grown g4)
  have HT9 := Lib.hid (HT1.out.trans (Tn.gb g4 (by simp)))
  clear g4 HT1 HF1 F9 HR1
  go_wp2
  exact bodyPost_ret (v := bfT 0 2 3 p) (by simp only [results, Tryz.results73, bfT]; go_simp) rfl ⟨rfl, HR9.out.st3 HC.out HL.out, Tn.own3 HT9.out HRW.out⟩

theorem byte_bad2 (c l : Nat) (s : ByteArray) (p : Nat) (x : St) (W : World) (h : Rd c l s p x W) (hr : x.r = 0) (hk : x.st + 1 ≤ x.s) (hp : p < s.size)
    (KM : ∀ u, Calls Tryz.prog 75 #[.int .i64 (bt s p)] u fun e w' => e = .returned (.bool false) ∧ u = w') :
    Calls Tryz.prog 73 #[.pointer (some ⟨c, 0, none⟩), .func (.func 75) #[] #[]] W fun e w' =>
      e = .returned (bfT 0 2 3 p) ∧ Rd c l s (p + 1) (stp x 1) w' ∧ Tn W w' [c, l] := by
  have hcw := h.clt
  have hlw := h.llt
  have hbig := h.so.big
  have hF0 := Fl.new W
  have hT0 : Tn W (W.alloc (.cells #[.int .i64 0, .int .i64 0, .int .i64 0] 34)) [c, l] := Tn.gb (World.grownBy_alloc _ _ none) (by simp)
  have KU := u8_byte c l s p x _ (h.grown (World.grownBy_alloc W (.cells #[.int .i64 0, .int .i64 0, .int .i64 0] 34) none)) hr hk hp
  obtain ⟨y, hy⟩ : ∃ y, bt s p = y := ⟨_, rfl⟩
  rw [hy] at KU KM
  have KU := Lib.hid KU
  have KM := Lib.hid KM
  have HF0 := Lib.hid hF0
  have HT0 := Lib.hid hT0
  obtain ⟨r, hrw⟩ : ∃ r, W.heap.size = r := ⟨_, rfl⟩
  have hrc : r ≠ c := by omega
  have hrl : r ≠ l := by omega
  have HRW := Lib.hid hrw
  have HNI : r ∉ [c, l] := by simp [hrc, hrl]
  have HC := Lib.hid hrc
  have HL := Lib.hid hrl
  have hpe : (((p + 1 : Nat) : Int) - 1) = p := by omega
  clear h hr hF0 hT0 hcw hlw hrc hrl hy
  go_enter Tryz.func73, Tryz.ntmps73
  go_wp2_with fail
  rw [HRW.out] at HF0
  refine KU.out.mono ?_
  rintro e w1 ⟨rfl, R1, T1⟩
  have KA := Lib.hid (at_rd c l s (p + 1) _ w1 R1)
  have HR1 := Lib.hid R1
  have HT1 := Lib.hid (HT0.out.trans T1)
  have HF1 := Lib.hid (HF0.out.turned T1 HNI)
  clear R1 T1 KU hrw
  go_wp2_with fail
  refine (KM.out _).mono ?_
  rintro e w' ⟨rfl, rfl⟩
  go_wp2_with fail
  refine KA.out.mono ?_
  rintro e w' ⟨rfl, rfl⟩
  go_wp2_with fail
  refine (pfault_calls 2 p _).mono ?_
  rintro e w4 ⟨rfl, g4⟩
  have F9 : Fl r 0 0 0 w4 := HF1.out.turned (Tn.gb g4 (S := [c, l]) (by simp)) HNI
  have q0 := F9.c0
  have q1 := F9.c1
  have q2 := F9.c2
  have f0 := F9.free 0
  have f1 := F9.free 1
  have f2 := F9.free 2
  have HR9 := Lib.hid (HR1.out.grown g4)
  have HT9 := Lib.hid (HT1.out.trans (Tn.gb g4 (by simp)))
  clear g4 HT1 HF1 F9 HR1
  go_wp2
  exact bodyPost_ret (v := bfT 0 2 3 p) (by simp only [results, Tryz.results73, bfT]; go_simp) rfl ⟨rfl, HR9.out.st3 HC.out HL.out, Tn.own3 HT9.out HRW.out⟩

theorem byte_end (F : FuncId) (c l : Nat) (s : ByteArray) (p : Nat) (x : St) (W : World) (h : Rd c l s p x W) (hr : x.r = 0) (hk : x.st + 1 ≤ x.s) (hp : s.size ≤ p) :
    Calls Tryz.prog 73 #[.pointer (some ⟨c, 0, none⟩), .func (.func F) #[] #[]] W fun e w' =>
      e = .returned (bfT 0 1 3 s.size) ∧ Rd c l s p (stp x 1) w' ∧ Tn W w' [c, l] := by
  have hcw := h.clt
  have hlw := h.llt
  have hF0 := Fl.new W
  have hT0 : Tn W (W.alloc (.cells #[.int .i64 0, .int .i64 0, .int .i64 0] 34)) [c, l] := Tn.gb (World.grownBy_alloc _ _ none) (by simp)
  have KU := Lib.hid (u8_over c l s p x _ (h.grown (World.grownBy_alloc W (.cells #[.int .i64 0, .int .i64 0, .int .i64 0] 34) none)) hr hk hp)
  have HF0 := Lib.hid hF0
  have HT0 := Lib.hid hT0
  have HR := Lib.hid hr
  obtain ⟨r, hrw⟩ : ∃ r, W.heap.size = r := ⟨_, rfl⟩
  have hrc : r ≠ c := by omega
  have hrl : r ≠ l := by omega
  have HRW := Lib.hid hrw
  have HNI : r ∉ [c, l] := by simp [hrc, hrl]
  have HC := Lib.hid hrc
  have HL := Lib.hid hrl
  clear h hr hF0 hT0 hcw hlw hrc hrl
  go_enter Tryz.func73, Tryz.ntmps73
  go_wp2_with fail
  rw [HRW.out] at HF0
  refine KU.out.mono ?_
  rintro e w1 ⟨rfl, R1, T1⟩
  have KF := Lib.hid (fault_end c l s p _ 3 w1 R1 HR.out)
  have HT1 := Lib.hid (HT0.out.trans T1)
  have HF1 := Lib.hid (HF0.out.turned T1 HNI)
  clear R1 T1 KU hrw
  go_wp2_with fail
  refine KF.out.mono ?_
  rintro e w4 ⟨rfl, R4, g4⟩
  have F9 : Fl r 0 0 0 w4 := HF1.out.turned (Tn.gb g4 (S := [c, l]) (by simp)) HNI
  have q0 := F9.c0
  have q1 := F9.c1
  have q2 := F9.c2
  have f0 := F9.free 0
  have f1 := F9.free 1
  have f2 := F9.free 2
  have HR9 := Lib.hid R4
  have HT9 := Lib.hid (HT1.out.trans (Tn.gb g4 (by simp)))
  clear R4 g4 KF HT1 HF1 F9
  go_wp2
  exact bodyPost_ret (v := bfT 0 1 3 s.size) (by simp only [results, Tryz.results73, bfT]; go_simp) rfl ⟨rfl, HR9.out.st3 HC.out HL.out, Tn.own3 HT9.out HRW.out⟩

theorem byte_spent (F : FuncId) (c l : Nat) (s : ByteArray) (p : Nat) (x : St) (W : World) (h : Rd c l s p x W) (hr : x.r = 0) (hk : x.s < x.st + 1) :
    Calls Tryz.prog 73 #[.pointer (some ⟨c, 0, none⟩), .func (.func F) #[] #[]] W fun e w' =>
      e = .returned (bfT 0 4 3 p) ∧ Rd c l s p (spent x) w' ∧ Tn W w' [c, l] := by
  have hcw := h.clt
  have hlw := h.llt
  have hF0 := Fl.new W
  have hT0 : Tn W (W.alloc (.cells #[.int .i64 0, .int .i64 0, .int .i64 0] 34)) [c, l] := Tn.gb (World.grownBy_alloc _ _ none) (by simp)
  have KU := Lib.hid (u8_spent c l s p x _ (h.grown (World.grownBy_alloc W (.cells #[.int .i64 0, .int .i64 0, .int .i64 0] 34) none)) hr hk)
  have HF0 := Lib.hid hF0
  have HT0 := Lib.hid hT0
  obtain ⟨r, hrw⟩ : ∃ r, W.heap.size = r := ⟨_, rfl⟩
  have hrc : r ≠ c := by omega
  have hrl : r ≠ l := by omega
  have HRW := Lib.hid hrw
  have HNI : r ∉ [c, l] := by simp [hrc, hrl]
  have HC := Lib.hid hrc
  have HL := Lib.hid hrl
  clear h hr hF0 hT0 hcw hlw hrc hrl
  go_enter Tryz.func73, Tryz.ntmps73
  go_wp2_with fail
  rw [HRW.out] at HF0
  refine KU.out.mono ?_
  rintro e w1 ⟨rfl, R1, T1⟩
  have KF := Lib.hid (fault_spent c l s p _ 3 w1 R1)
  have HT1 := Lib.hid (HT0.out.trans T1)
  have HF1 := Lib.hid (HF0.out.turned T1 HNI)
  clear R1 T1 KU hrw
  go_wp2_with fail
  refine KF.out.mono ?_
  rintro e w4 ⟨rfl, R4, g4⟩
  have F9 : Fl r 0 0 0 w4 := HF1.out.turned (Tn.gb g4 (S := [c, l]) (by simp)) HNI
  have q0 := F9.c0
  have q1 := F9.c1
  have q2 := F9.c2
  have f0 := F9.free 0
  have f1 := F9.free 1
  have f2 := F9.free 2
  have HR9 := Lib.hid R4
  have HT9 := Lib.hid (HT1.out.trans (Tn.gb g4 (by simp)))
  clear R4 g4 KF HT1 HF1 F9
  go_wp2
  exact bodyPost_ret (v := bfT 0 4 3 p) (by simp only [results, Tryz.results73, bfT]; go_simp) rfl ⟨rfl, HR9.out.st3 HC.out HL.out, Tn.own3 HT9.out HRW.out⟩

theorem fmK_pos' {k : Nat} (h : k ≠ 0) : ((fmK k : Nat) : Int) = 3 := by
  unfold fmK
  rw [if_neg h]
  rfl
/-- A head, and a fault. -/
def rdT (z : Hd) : Value := .tuple #[.agg #[.int .i64 z.k, .int .i64 z.w, .int .i64 z.h, .int .i64 z.m, .int .i64 z.a], .agg #[.int .i64 z.f, .int .i64 (fmK z.f), .int .i64 z.p]]
def fdT (k f a : Int) : Value := .tuple #[.agg #[.int .i64 0, .int .i64 0, .int .i64 0, .int .i64 0, .int .i64 0], .agg #[.int .i64 k, .int .i64 f, .int .i64 a]]
/-- Behind Read. -/
def RP (W : World) (c l : Nat) (s : ByteArray) (x : St) (e : Ending) (w' : World) : Prop :=
  ∃ q, q ≤ s.size ∧ Tn W w' [c, l] ∧ ((e = .returned (rdT (readV s)) ∧ ((readV s).f = 0 → q = (readV s).a) ∧ Rd c l s q (stp x (readN s)) w') ∨ (x.s < x.st + (readN s : Int) ∧ e = .returned (fdT 4 3 q) ∧ Rd c l s q (spent x) w'))
/-- A fault that ends it. -/
def FP (W : World) (c l : Nat) (s : ByteArray) (x : St) (k f a : Int) (q : Nat) (y : St) : Prop :=
  k ≠ 0 ∧ ∀ u, Tn W u [c, l] → Rd c l s q y u → RP W c l s x (.returned (fdT k f a)) u
theorem fp_spent {W : World} {c l : Nat} {s : ByteArray} {x : St} {q : Nat} (hq : q ≤ s.size) (h : x.s < x.st + (readN s : Int)) : FP W c l s x 4 3 q q (spent x) :=
  ⟨by decide, fun u t R => ⟨q, hq, t, .inr ⟨h, rfl, R⟩⟩⟩
theorem fp_fault {W : World} {c l : Nat} {s : ByteArray} {x : St} {q k a n : Nat} (hq : q ≤ s.size) (hk : k ≠ 0) (h : readV s = ⟨0, 0, 0, 0, 0, k, a⟩) (hn : readN s = n) : FP W c l s x k 3 a q (stp x n) := by
  refine ⟨by omega, fun u t R => ⟨q, hq, t, .inl ⟨?_, ?_, ?_⟩⟩⟩
  · rw [h]
    simp only [rdT, fdT]
    rw [fmK_pos' hk]
    rfl
  · rw [h]
    exact fun h' => absurd h' hk
  · rw [hn]
    exact R

end Go.Proofs.YtcfdippcobkbaaaGreat.Ph

/- Package pnmhead: the kind. -/
namespace Go.Proofs.YtcfdippcobkbaaaGreat.Ph
open Go.ChangeShapes Go.WideShapes Go.ChangeAt Go.RowKit
open Go.Proofs.YtcfdippcobkbaaaGreat.Le Go.Proofs.YtcfdippcobkbaaaGreat.Sr Go.Proofs.YtcfdippcobkbaaaGreat.Tk
set_option linter.unusedVariables false

theorem endN_ge {k : Nat} {R : NR} : R.n ≤ endN k R := by
  unfold endN
  repeat' split
  all_goals omega
theorem readN_ge2 {s : ByteArray} (h : 0 < s.size) (h0 : bt s 0 = 80) : 2 ≤ readN s := by
  by_cases h2 : s.size < 2
  · rw [readN_2 (by omega) h0 h2]
    exact Nat.le_refl _
  · by_cases h3 : 49 ≤ bt s 1 ∧ bt s 1 ≤ 54
    · rw [readN_4 (k := bt s 1 - 48) h2 h0 (by omega) (by omega)]
      have := (nums_gd s (bt s 1 - 48) 3 nr0 rfl (by show 2 ≤ _; omega)).2.1
      have h' : 2 ≤ _ := this
      exact Nat.le_trans h' endN_ge
    · rw [readN_3 h2 h0 h3]
      exact Nat.le_refl _
theorem readN_ge1 (s : ByteArray) : 1 ≤ readN s := by
  by_cases h : s.size < 1
  · rw [readN_0 h]
    exact Nat.le_refl _
  · by_cases h0 : bt s 0 = 80
    · have := readN_ge2 (by omega) h0
      omega
    · rw [readN_1 h h0]
      exact Nat.le_refl _

/-- The first byte. -/
theorem kindA_calls (c l : Nat) (s : ByteArray) (x : St) (W0 W : World) (h : Rd c l s 0 x W) (hr : x.r = 0) :
    Calls Tryz.prog 73 #[.pointer (some ⟨c, 0, none⟩), .func (.func 74) #[] #[]] W fun e w' =>
      ∃ q, q ≤ s.size ∧ Tn W w' [c, l] ∧ ((∃ (k f a : Int) (y : St), e = .returned (bfT 0 k f a) ∧ Rd c l s q y w' ∧ FP W0 c l s x k f a q y) ∨ (0 < s.size ∧ bt s 0 = 80 ∧ e = .returned (bfT 80 0 0 0) ∧ Rd c l s 1 (stp x 1) w')) := by
  by_cases hk : x.s < x.st + 1
  · refine (byte_spent _ c l s 0 x W h hr hk).mono fun e w' ⟨he, R, t⟩ => ⟨0, Nat.zero_le _, t, .inl ⟨4, 3, 0, _, he, R, fp_spent (Nat.zero_le _) ?_⟩⟩
    have := readN_ge1 s
    omega
  · by_cases hz : s.size = 0
    · refine (byte_end _ c l s 0 x W h hr (by omega) (by omega)).mono fun e w' ⟨he, R, t⟩ => ⟨0, Nat.zero_le _, t, .inl ⟨1, 3, s.size, _, he, R, ?_⟩⟩
      refine fp_fault (Nat.zero_le _) (by decide) ?_ (readN_0 (by omega))
      rw [readV_0 (by omega), hz]
    · have h0 : 0 < s.size := by omega
      have KM := fun u => kind1_calls (bt s 0) u
      by_cases hb : bt s 0 = 80
      · simp only [show ((bt s 0 : Int) == 80) = true from by rw [beq_iff_eq]; omega] at KM
        refine (byte_yes1 c l s 0 x W h hr (by omega) h0 KM).mono fun e w' ⟨he, R, t⟩ => ⟨0, Nat.zero_le _, t, .inr ⟨h0, hb, ?_, R⟩⟩
        rw [he, hb]
        rfl
      · simp only [show ((bt s 0 : Int) == 80) = false from by rw [beq_eq_false_iff_ne]; omega] at KM
        refine (byte_bad1 c l s 0 x W h hr (by omega) h0 KM).mono fun e w' ⟨he, R, t⟩ => ⟨1, h0, t, .inl ⟨2, 3, _, _, he, R, ?_⟩⟩
        exact fp_fault h0 (by decide) (readV_1 (by omega) hb) (readN_1 (by omega) hb)

/-- The second. -/
theorem kindB_calls (c l : Nat) (s : ByteArray) (x : St) (W0 W : World) (h : Rd c l s 1 (stp x 1) W) (hr : x.r = 0) (h0 : 0 < s.size) (hb : bt s 0 = 80) :
    Calls Tryz.prog 73 #[.pointer (some ⟨c, 0, none⟩), .func (.func 75) #[] #[]] W fun e w' =>
      ∃ q, q ≤ s.size ∧ Tn W w' [c, l] ∧ ((∃ (k f a : Int) (y : St), e = .returned (bfT 0 k f a) ∧ Rd c l s q y w' ∧ FP W0 c l s x k f a q y) ∨ (∃ k : Nat, 1 ≤ k ∧ k ≤ 6 ∧ 2 ≤ s.size ∧ bt s 1 = k + 48 ∧ e = .returned (bfT ((k + 48 : Nat) : Int) 0 0 0) ∧ Rd c l s 2 (stp x 2) w')) := by
  by_cases hk : x.s < x.st + (1 : Nat) + 1
  · refine (byte_spent _ c l s 1 _ W h hr hk).mono fun e w' ⟨he, R, t⟩ => ⟨1, h0, t, .inl ⟨4, 3, 1, _, he, R, fp_spent h0 ?_⟩⟩
    have := readN_ge2 h0 hb
    omega
  · have hk' : (stp x 1).st + 1 ≤ (stp x 1).s := by rw [stp_st, stp_s]; omega
    by_cases hz : s.size < 2
    · refine (byte_end _ c l s 1 _ W h hr hk' (by omega)).mono fun e w' ⟨he, R, t⟩ => ⟨1, h0, t, .inl ⟨1, 3, s.size, _, he, R, ?_⟩⟩
      rw [stp_stp]
      refine fp_fault h0 (by decide) ?_ (readN_2 (by omega) hb hz)
      rw [readV_2 (by omega) hb hz, show s.size = 1 from by omega]
    · have h1 : 1 < s.size := by omega
      have KM := fun u => kind2_calls (bt s 1) u (bt_lt s 1)
      by_cases h3 : 49 ≤ bt s 1 ∧ bt s 1 ≤ 54
      · simp only [(rgB_iff 1 6 ((bt s 1 : Int) - 48)).2 (by omega)] at KM
        refine (byte_yes2 c l s 1 _ W h hr hk' h1 KM).mono fun e w' ⟨he, R, t⟩ => ⟨2, h1, t, .inr ⟨bt s 1 - 48, by omega, by omega, h1, by omega, ?_, ?_⟩⟩
        · rw [he, show bt s 1 - 48 + 48 = bt s 1 from by omega]
        · rw [stp_stp] at R
          exact R
      · simp only [(rgB_not 1 6 ((bt s 1 : Int) - 48)).2 (by omega)] at KM
        refine (byte_bad2 c l s 1 _ W h hr hk' h1 KM).mono fun e w' ⟨he, R, t⟩ => ⟨2, h1, t, .inl ⟨2, 3, _, _, he, R, ?_⟩⟩
        rw [stp_stp]
        exact fp_fault h1 (by decide) (readV_3 hz hb h3) (readN_3 hz hb h3)

set_option maxRecDepth 100000 in
set_option maxHeartbeats 4000000 in
theorem kind_calls (c l : Nat) (s : ByteArray) (x : St) (W0 W : World) (h : Rd c l s 0 x W) (hr : x.r = 0) :
    Calls Tryz.prog 55 #[.pointer (some ⟨c, 0, none⟩)] W fun e w' =>
      ∃ q, q ≤ s.size ∧ Tn W w' [c, l] ∧ ((∃ (k f a : Int) (y : St), e = .returned (bfT 0 k f a) ∧ Rd c l s q y w' ∧ FP W0 c l s x k f a q y) ∨
        (∃ k : Nat, 1 ≤ k ∧ k ≤ 6 ∧ 2 ≤ s.size ∧ bt s 0 = 80 ∧ bt s 1 = k + 48 ∧ e = .returned (bfT k 0 0 0) ∧ Rd c l s 2 (stp x 2) w')) := by
  have hcw := h.clt
  have hlw := h.llt
  have hF0 := Fl.new W
  have hT0 : Tn W (W.alloc (.cells #[.int .i64 0, .int .i64 0, .int .i64 0] 34)) [c, l] := Tn.gb (World.grownBy_alloc _ _ none) (by simp)
  have KA := Lib.hid (kindA_calls c l s x W0 _ (h.grown (World.grownBy_alloc W (.cells #[.int .i64 0, .int .i64 0, .int .i64 0] 34) none)) hr)
  have HF0 := Lib.hid hF0
  have HT0 := Lib.hid hT0
  have HR := Lib.hid hr
  obtain ⟨r, hrw⟩ : ∃ r, W.heap.size = r := ⟨_, rfl⟩
  have hrc : r ≠ c := by omega
  have hrl : r ≠ l := by omega
  have HRW := Lib.hid hrw
  have HNI : r ∉ [c, l] := by simp [hrc, hrl]
  have HC := Lib.hid hrc
  have HL := Lib.hid hrl
  have hcr : c < r := by omega
  have hlr : l < r := by omega
  clear h hr hF0 hT0 hcw hlw hrc hrl
  go_enter Tryz.func55, Tryz.ntmps55
  go_wp2_with fail
  rw [HRW.out] at HF0
  refine KA.out.mono ?_
  rintro e w1 ⟨q, hq, T1, ⟨k, f, a, y, rfl, R1, P⟩ | ⟨h0, hb, rfl, R1⟩⟩
  · have F1 := HF0.out.turned T1 HNI
    have hr1 := F1.lt
    have B1 : Fl w1.heap.size k f a (w1.alloc (.cells #[.int .i64 k, .int .i64 f, .int .i64 a] 34)) := blk_at
    have HB1 := Lib.hid B1
    have HF1 := Lib.hid (show Fl r 0 0 0 (w1.alloc (.cells #[.int .i64 k, .int .i64 f, .int .i64 a] 34)) from blk_al F1 _)
    have HT1 := Lib.hid ((HT0.out.trans T1).al (o := .cells #[.int .i64 k, .int .i64 f, .int .i64 a] 34))
    have HR1 := Lib.hid (R1.grown (World.grownBy_alloc w1 (.cells #[.int .i64 k, .int .i64 f, .int .i64 a] 34) none))
    have HP := Lib.hid P
    have d0 : (k == 0) = false := by rw [beq_eq_false_iff_ne]; exact P.1
    have d0' : (k != 0) = true := by rw [bne_iff_ne]; exact P.1
    have hne : ¬ w1.heap.size = r := by omega
    have hne' : ¬ r = w1.heap.size := by omega
    clear F1 T1 R1 P KA B1 hrw
    simp only [bfT]
    go_wp2_with fail
    generalize w1.alloc (.cells #[.int .i64 k, .int .i64 f, .int .i64 a] 34) = w2 at HB1 HF1 HT1 HR1 ⊢
    have p0 := HB1.out.c0
    have p1 := HB1.out.c1
    have p2 := HB1.out.c2
    have q0 := HF1.out.c0
    have q1 := HF1.out.c1
    have q2 := HF1.out.c2
    have f0 := HF1.out.free 0
    have f1 := HF1.out.free 1
    have f2 := HF1.out.free 2
    go_region
    go_wp2
    exact bodyPost_ret (v := bfT 0 k f a) (by simp only [results, Tryz.results55, bfT]; go_simp) rfl ⟨q, hq, (Tn.own3 HT1.out HRW.out).trans (Tn.drew _ _), .inl ⟨k, f, a, y, rfl, (HR1.out.st3 HC.out HL.out).grown (gb_drew _ _), HP.out⟩⟩
  · have F1 := HF0.out.turned T1 HNI
    have hr1 := F1.lt
    have F2 : Fl r 0 0 0 (w1.alloc (.cells #[.int .i64 0, .int .i64 0, .int .i64 0] 34)) := blk_al F1 _
    have R2 := R1.grown (World.grownBy_alloc w1 (.cells #[.int .i64 0, .int .i64 0, .int .i64 0] 34) none)
    have KB := Lib.hid (kindB_calls c l s x W0 _ R2 HR.out h0 hb)
    have HF2 := Lib.hid F2
    have HT2 := Lib.hid ((HT0.out.trans T1).al (o := .cells #[.int .i64 0, .int .i64 0, .int .i64 0] 34))
    have H0 := Lib.hid hb
    clear F1 T1 R1 KA F2 R2 hrw hb
    simp only [bfT]
    go_wp2_with fail
    refine KB.out.mono ?_
    rintro e w3 ⟨q, hq, T3, ⟨k, f, a, y, rfl, R3, P⟩ | ⟨k, hk1, hk6, h2, hb1, rfl, R3⟩⟩
    · have F3 := HF2.out.turned T3 HNI
      have hr1 := F3.lt
      have B1 : Fl w3.heap.size k f a (w3.alloc (.cells #[.int .i64 k, .int .i64 f, .int .i64 a] 34)) := blk_at
      have HB1 := Lib.hid B1
      have HF1 := Lib.hid (show Fl r 0 0 0 (w3.alloc (.cells #[.int .i64 k, .int .i64 f, .int .i64 a] 34)) from blk_al F3 _)
      have HT1 := Lib.hid ((HT2.out.trans T3).al (o := .cells #[.int .i64 k, .int .i64 f, .int .i64 a] 34))
      have HR1 := Lib.hid (R3.grown (World.grownBy_alloc w3 (.cells #[.int .i64 k, .int .i64 f, .int .i64 a] 34) none))
      have HP := Lib.hid P
      have d0 : (k == 0) = false := by rw [beq_eq_false_iff_ne]; exact P.1
      have d0' : (k != 0) = true := by rw [bne_iff_ne]; exact P.1
      have hne : ¬ w3.heap.size = r := by omega
      have hne' : ¬ r = w3.heap.size := by omega
      clear F3 T3 R3 P KB B1 HF2 HT2
      simp only [bfT]
      go_wp2_with fail
      generalize w3.alloc (.cells #[.int .i64 k, .int .i64 f, .int .i64 a] 34) = w4 at HB1 HF1 HT1 HR1 ⊢
      have p0 := HB1.out.c0
      have p1 := HB1.out.c1
      have p2 := HB1.out.c2
      have q0 := HF1.out.c0
      have q1 := HF1.out.c1
      have q2 := HF1.out.c2
      have f0 := HF1.out.free 0
      have f1 := HF1.out.free 1
      have f2 := HF1.out.free 2
      go_region
      go_wp2
      exact bodyPost_ret (v := bfT 0 k f a) (by simp only [results, Tryz.results55, bfT]; go_simp) rfl ⟨q, hq, (Tn.own3 HT1.out HRW.out).trans (Tn.drew _ _), .inl ⟨k, f, a, y, rfl, (HR1.out.st3 HC.out HL.out).grown (gb_drew _ _), HP.out⟩⟩
    · have F3 := HF2.out.turned T3 HNI
      have hr1 := F3.lt
      have B1 : Fl w3.heap.size 0 0 0 (w3.alloc (.cells #[.int .i64 0, .int .i64 0, .int .i64 0] 34)) := blk_at
      have HB1 := Lib.hid B1
      have HF1 := Lib.hid (show Fl r 0 0 0 (w3.alloc (.cells #[.int .i64 0, .int .i64 0, .int .i64 0] 34)) from blk_al F3 _)
      have HT1 := Lib.hid ((HT2.out.trans T3).al (o := .cells #[.int .i64 0, .int .i64 0, .int .i64 0] 34))
      have HR1 := Lib.hid (R3.grown (World.grownBy_alloc w3 (.cells #[.int .i64 0, .int .i64 0, .int .i64 0] 34) none))
      have HB := Lib.hid hb1
      have hke : (((k + 48 : Nat) : Int) - 48) = k := by omega
      have hne : ¬ w3.heap.size = r := by omega
      have hne' : ¬ r = w3.heap.size := by omega
      clear F3 T3 R3 KB B1 HF2 HT2 hb1
      simp only [bfT]
      go_wp2_with fail
      generalize w3.alloc (.cells #[.int .i64 0, .int .i64 0, .int .i64 0] 34) = w4 at HB1 HF1 HT1 HR1 ⊢
      have p0 := HB1.out.c0
      have p1 := HB1.out.c1
      have p2 := HB1.out.c2
      have q0 := HF1.out.c0
      have q1 := HF1.out.c1
      have q2 := HF1.out.c2
      have f0 := HF1.out.free 0
      have f1 := HF1.out.free 1
      have f2 := HF1.out.free 2
      go_region
      go_wp2
      exact bodyPost_ret (v := bfT k 0 0 0) (by simp only [results, Tryz.results55, bfT]; go_simp) rfl ⟨q, hq, (Tn.own3 HT1.out HRW.out).trans (Tn.drew _ _), .inr ⟨k, hk1, hk6, h2, H0.out, HB.out, rfl, (HR1.out.st3 HC.out HL.out).grown (gb_drew _ _)⟩⟩

end Go.Proofs.YtcfdippcobkbaaaGreat.Ph

/- Package pnmhead: the numbers of a head (written by wip/gen/pnh6.py). -/
namespace Go.Proofs.YtcfdippcobkbaaaGreat.Ph
open Go.ChangeShapes Go.WideShapes Go.ChangeAt Go.RowKit
open Go.Proofs.YtcfdippcobkbaaaGreat.Le Go.Proofs.YtcfdippcobkbaaaGreat.Sr Go.Proofs.YtcfdippcobkbaaaGreat.Tk
set_option linter.unusedVariables false

/-- Block b is a head. -/
def Hc (b : Nat) (k w h m a : Int) (W : World) : Prop := W.heap[b]? = some (.cells #[.int .i64 k, .int .i64 w, .int .i64 h, .int .i64 m, .int .i64 a] 70 (0, 0))
section
variable {b : Nat} {k w h m a : Int} {W W' : World}
theorem Hc.c0 (H : Hc b k w h m a W) : W.cell? ⟨b, 0, none⟩ = some (.int .i64 k) := blk_cell H 0
theorem Hc.c1 (H : Hc b k w h m a W) : W.cell? ⟨b, 1, none⟩ = some (.int .i64 w) := blk_cell H 1
theorem Hc.c2 (H : Hc b k w h m a W) : W.cell? ⟨b, 2, none⟩ = some (.int .i64 h) := blk_cell H 2
theorem Hc.c3 (H : Hc b k w h m a W) : W.cell? ⟨b, 3, none⟩ = some (.int .i64 m) := blk_cell H 3
theorem Hc.c4 (H : Hc b k w h m a W) : W.cell? ⟨b, 4, none⟩ = some (.int .i64 a) := blk_cell H 4
theorem Hc.free (H : Hc b k w h m a W) (o : Nat) : W.frozen? ⟨b, o, none⟩ = false := blk_free H o
theorem Hc.lt (H : Hc b k w h m a W) : b < W.heap.size := blk_lt H
theorem Hc.turned {S : List Nat} (H : Hc b k w h m a W) (t : Tn W W' S) (h1 : b ∉ S) : Hc b k w h m a W' := (t.block b H.lt h1).trans H
theorem Hc.set1 (H : Hc b k w h m a W) (x : Int) : Hc b k x h m a (W.setCell ⟨b, 1, none⟩ (.int .i64 x)) := blk_set H 1 (.int .i64 x)
theorem Hc.set2 (H : Hc b k w h m a W) (x : Int) : Hc b k w x m a (W.setCell ⟨b, 2, none⟩ (.int .i64 x)) := blk_set H 2 (.int .i64 x)
theorem Hc.set3 (H : Hc b k w h m a W) (x : Int) : Hc b k w h x a (W.setCell ⟨b, 3, none⟩ (.int .i64 x)) := blk_set H 3 (.int .i64 x)
theorem Hc.set4 (H : Hc b k w h m a W) (x : Int) : Hc b k w h m x (W.setCell ⟨b, 4, none⟩ (.int .i64 x)) := blk_set H 4 (.int .i64 x)
theorem Hc.oth {c o : Nat} {v : Value} (H : Hc b k w h m a W) (h1 : b ≠ c) : Hc b k w h m a (W.setCell ⟨c, o, none⟩ v) := blk_other H h1
theorem Hc.al (H : Hc b k w h m a W) (o : Obj) : Hc b k w h m a (W.alloc o) := blk_al H o
end
theorem Fl.oth {r k' o : Nat} {v : Value} {k f a : Int} {w : World} (h : Fl r k f a w) (h1 : r ≠ k') : Fl r k f a (w.setCell ⟨k', o, none⟩ v) := blk_other h h1
theorem Fl.al {r : Nat} {k f a : Int} {w : World} (h : Fl r k f a w) (o : Obj) : Fl r k f a (w.alloc o) := blk_al h o

theorem nums_ge {s : ByteArray} {k r : Nat} {z : NR} (hb : ¬ (r = 0 ∧ (k = 1 ∨ k = 4))) (ha : z.a ≤ s.size) : z.n + numN s z.a ≤ (nums s k (r + 1) z).n := by
  rcases gotV_gd s z.a ha with ⟨kd, pl, eg, h0, h3, hp, hN⟩ | ⟨v, f, j, eg, h1, h2, h3, h4, hN⟩
  · rw [nums_fault hb eg h0]
    exact Nat.le_refl _
  · by_cases hv : v = 0 ∨ (r = 0 ∧ 65535 < v)
    · rw [nums_bad hb eg hv]
      exact Nat.le_refl _
    · by_cases hg : 0 < r ∧ 16384 < v
      · rw [nums_big hb eg hv hg]
        exact Nat.le_refl _
      · rw [nums_on hb eg hv hg]
        exact (nums_gd s k r ⟨0, 0, j, if r = 2 then v else z.w, if r = 1 then v else z.h, if r = 0 then v else z.m, z.n + numN s z.a⟩ rfl h3).2.1
theorem fp_nums {W : World} {c l : Nat} {s : ByteArray} {x : St} {k q kd pl N : Nat} {R : NR} (hq : q ≤ s.size) (hv : readV s = endV s k R) (hn : readN s = endN k R) (hR : R = ⟨kd, pl, 0, 0, 0, 0, N⟩) (h0 : kd ≠ 0) : FP W c l s x kd 3 pl q (stp x N) := by
  refine fp_fault hq h0 (by rw [hv, hR]; exact endV_fault h0) ?_
  rw [hn, hR]
  unfold endN
  rw [if_pos h0]
theorem fp_nspent {W : World} {c l : Nat} {s : ByteArray} {x : St} {k q M : Nat} {R : NR} (hq : q ≤ s.size) (hn : readN s = endN k R) (hge : M ≤ R.n) (h : x.s < x.st + (M : Int)) : FP W c l s x 4 3 q q (spent x) := by
  refine fp_spent hq ?_
  have := endN_ge (k := k) (R := R)
  rw [hn]
  omega

theorem idx_0 (hd : Nat) (w : World) : (Instr.index 147 (.agg #[.pointer (some ⟨hd, 1, none⟩), .pointer (some ⟨hd, 2, none⟩), .pointer (some ⟨hd, 3, none⟩)]) (.int .i64 0)).run Tryz.prog w = .ok (.pointer (some ⟨hd, 1, none⟩)) w := by kernel_rfl
theorem idx_1 (hd : Nat) (w : World) : (Instr.index 147 (.agg #[.pointer (some ⟨hd, 1, none⟩), .pointer (some ⟨hd, 2, none⟩), .pointer (some ⟨hd, 3, none⟩)]) (.int .i64 1)).run Tryz.prog w = .ok (.pointer (some ⟨hd, 2, none⟩)) w := by kernel_rfl
theorem idx_2 (hd : Nat) (w : World) : (Instr.index 147 (.agg #[.pointer (some ⟨hd, 1, none⟩), .pointer (some ⟨hd, 2, none⟩), .pointer (some ⟨hd, 3, none⟩)]) (.int .i64 2)).run Tryz.prog w = .ok (.pointer (some ⟨hd, 3, none⟩)) w := by kernel_rfl

/-- Behind the numbers. -/
def NumP (W0 W : World) (c l hd : Nat) (s : ByteArray) (k : Nat) (R : NR) (x : St) (e : Ending) (w' : World) : Prop :=
  ∃ q, q ≤ s.size ∧ Tn W w' [c, l, hd] ∧ ((∃ (kf f a : Int) (y : St), e = .returned (.agg #[.int .i64 kf, .int .i64 f, .int .i64 a]) ∧ Rd c l s q y w' ∧ FP W0 c l s x kf f a q y) ∨
    (R.f = 0 ∧ q = R.a ∧ e = .returned okF ∧ Rd c l s q (stp x R.n) w' ∧ Hc hd k R.w R.h R.m 0 w'))

set_option maxRecDepth 100000 in
set_option maxHeartbeats 8000000 in
theorem numbers_calls (c l hd : Nat) (s : ByteArray) (k : Nat) (R : NR) (x : St) (W0 W : World) (h : Rd c l s 2 (stp x 2) W) (hh : Hc hd k 0 0 1 0 W) (hr : x.r = 0) (nc : hd ≠ c) (nl : hd ≠ l)
    (hR : nums s k 3 nr0 = R) (hv : readV s = endV s k R) (hn : readN s = endN k R) :
    Calls Tryz.prog 56 #[.pointer (some ⟨c, 0, none⟩), .pointer (some ⟨hd, 0, none⟩)] W (NumP W0 W c l hd s k R x) := by
  have hcw := h.clt
  have hlw := h.llt
  have hhw := hh.lt
  have hbig := h.so.big
  have hs2 := h.so.pt
  obtain ⟨r, hrw⟩ : ∃ r, W.heap.size = r := ⟨_, rfl⟩
  have HF0 : Fl r 0 0 0 (W.alloc (.cells #[.int .i64 0, .int .i64 0, .int .i64 0] 34)) := by
    rw [← hrw]
    exact Fl.new W
  have hT0 : Tn W (W.alloc (.cells #[.int .i64 0, .int .i64 0, .int .i64 0] 34)) [c, l, hd] := Tn.gb (World.grownBy_alloc _ _ none) (by simp)
  have HR0 := Lib.hid (h.grown (World.grownBy_alloc W (.cells #[.int .i64 0, .int .i64 0, .int .i64 0] 34) none))
  have HH0 := Lib.hid (hh.al (.cells #[.int .i64 0, .int .i64 0, .int .i64 0] 34))
  have HF0 := Lib.hid HF0
  have HT0 := Lib.hid hT0
  have hrc : r ≠ c := by omega
  have hrl : r ≠ l := by omega
  have hrh : ¬ r = hd := by omega
  have hhr : ¬ hd = r := by omega
  have HRW := Lib.hid hrw
  have HNI : r ∉ [c, l] := by simp [hrc, hrl]
  have HNH : hd ∉ [c, l] := by simp [nc, nl]
  have HC := Lib.hid hrc
  have HL := Lib.hid hrl
  have HNC := Lib.hid nc
  have HNL := Lib.hid nl
  have HRR := Lib.hid hR
  have HV := Lib.hid hv
  have HN := Lib.hid hn
  have HX := Lib.hid hr
  clear h hh hr hT0 hcw hlw hhw hrc hrl nc nl hR hv hn
  go_enter Tryz.func56, Tryz.ntmps56
  go_wp2_with fail
  clear hrw
  generalize W.alloc (.cells #[.int .i64 0, .int .i64 0, .int .i64 0] 34) = w0 at HF0 HT0 HR0 HH0 ⊢
  have HRq := Lib.hid (fun n : Nat => HR0.out.grown (gb_drewN w0 n none))
  have HHq := Lib.hid (fun n : Nat => HH0.out.turned (Tn.gb (gb_drewN w0 n none) (S := [c, l]) (by simp)) HNH)
  have HFq := Lib.hid (fun n : Nat => HF0.out.turned (Tn.gb (gb_drewN w0 n none) (S := [c, l]) (by simp)) HNI)
  have HTq := Lib.hid (fun n : Nat => HT0.out.trans (Tn.gb (gb_drewN w0 n none) (S := [c, l, hd]) (by simp)))
  clear HF0 HT0 HR0 HH0
  go_quiet (fail)
  go_wp2_with fail
  go_loopg [21] 3 (fun qq iv wr => ∃ i a w h m n : Nat, i ≤ 3 ∧ a ≤ s.size ∧ qq = 3 - i ∧ iv = .int .i64 i ∧ nums s k (3 - i) ⟨0, 0, a, w, h, m, n⟩ = R ∧ Rd c l s a (stp x n) wr ∧ Hc hd k w h m 0 wr ∧ Fl r 0 0 0 wr ∧ Tn W wr [c, l, hd])
  case atStart => exact ⟨0, 2, 0, 0, 1, 2, by decide, hs2, rfl, rfl, HRR.out, HRq.out _, HHq.out _, HFq.out _, HTq.out _⟩
  case round =>
    obtain ⟨i, a, w, h, m, n, hi, ha, rfl, rfl, J, R0, D0, F0, T0⟩ := hrel
    have HJ := Lib.hid J
    have HR2 := Lib.hid R0
    have HD2 := Lib.hid D0
    have HF2 := Lib.hid F0
    have HT2 := Lib.hid T0
    clear J R0 D0 F0 T0 HRq HHq HFq HTq HRR
    obtain rfl | rfl | rfl | rfl : i = 0 ∨ i = 1 ∨ i = 2 ∨ i = 3 := by omega
    · have hix := idx_0 hd
      have KN := number_calls c l s a _ wr HR2.out HX.out
      rcases gotV_gd s a ha with ⟨kd, pl, eg, hk0, hk3, hpl, _⟩ | ⟨v, f, j, eg, hkf, hfj, hjs, hv, hNj⟩
      · rw [eg] at KN
        have KN := Lib.hid KN
        have hR := HJ.out.symm.trans (nums_fault (r := 2) (fun h => absurd h.1 (by decide)) eg hk0)
        have d5 : ((kd : Int) == 0) = false := by rw [beq_eq_false_iff_ne]; omega
        have d5' : ((kd : Int) != 0) = true := by rw [bne_iff_ne]; omega
        have h3 := Lib.hid (fmK_pos' hk0)
        clear eg
        go_wp2_with fail
        refine KN.out.mono ?_
        rintro e w3 ⟨q, hpq, hqs, t3, ⟨rfl, _, R3⟩ | ⟨hno, rfl, R3⟩⟩
        · have HFP := Lib.hid (fp_nums (W := W0) (c := c) (l := l) (x := x) hqs HV.out HN.out hR hk0)
          have F3 := HF2.out.turned t3 HNI
          have hr3 := F3.lt
          have HF3 := Lib.hid F3
          have HT3 := Lib.hid (HT2.out.trans (t3.mono (by simp)))
          rw [stp_stp] at R3
          have HR3 := Lib.hid R3
          clear hR t3 R3 F3 HF2 HT2 HR2 KN HJ
          simp only [gotT]
          rw [h3.out]
          have F9 : Fl r 0 0 0 w3 := HF3.out
          have q0 := F9.c0
          have q1 := F9.c1
          have q2 := F9.c2
          have f0 := F9.free 0
          have f1 := F9.free 1
          have f2 := F9.free 2
          have hr9 := F9.lt
          clear F9
          go_wp2
          refine bodyPost_ret (v := .agg #[.int .i64 kd, .int .i64 3, .int .i64 pl]) (by simp only [results, Tryz.results56]; go_simp) rfl ⟨q, hqs, (Tn.own3 HT3.out HRW.out).al, .inl ⟨kd, 3, pl, _, rfl, ((HR3.out.st3 HC.out HL.out).grown (World.grownBy_alloc _ _ none)), HFP.out⟩⟩
        · have hno' : x.s < x.st + ((n + numN s a : Nat) : Int) := by
            rw [stp_s, stp_st] at hno
            omega
          have HFP := Lib.hid (fp_nspent (W := W0) (c := c) (l := l) hqs HN.out (by rw [← HJ.out]; exact nums_ge (z := ⟨0, 0, a, w, h, m, n⟩) (r := 2) (fun h => absurd h.1 (by decide)) ha) hno')
          have F3 := HF2.out.turned t3 HNI
          have HF3 := Lib.hid F3
          have HT3 := Lib.hid (HT2.out.trans (t3.mono (by simp)))
          have HR3 := Lib.hid R3
          clear hR hno hno' t3 R3 F3 HF2 HT2 HR2 KN
          simp only [noT]
          have F9 : Fl r 0 0 0 w3 := HF3.out
          have q0 := F9.c0
          have q1 := F9.c1
          have q2 := F9.c2
          have f0 := F9.free 0
          have f1 := F9.free 1
          have f2 := F9.free 2
          have hr9 := F9.lt
          clear F9
          go_wp2
          refine bodyPost_ret (v := .agg #[.int .i64 4, .int .i64 3, .int .i64 q]) (by simp only [results, Tryz.results56]; go_simp) rfl ⟨q, hqs, (Tn.own3 HT3.out HRW.out).al, .inl ⟨4, 3, q, _, rfl, ((HR3.out.st3 HC.out HL.out).grown (World.grownBy_alloc _ _ none)), HFP.out⟩⟩
      · rw [eg] at KN
        have KN := Lib.hid KN
        go_wp2_with fail
        refine KN.out.mono ?_
        rintro e w3 ⟨q, hpq, hqs, t3, ⟨rfl, hq, R3⟩ | ⟨hno, rfl, R3⟩⟩
        · obtain rfl : q = j := hq rfl
          have D3 := HD2.out.turned t3 HNH
          have hd3 := D3.lt
          have HD3 := Lib.hid D3
          have F3 := HF2.out.turned t3 HNI
          have hr3 := F3.lt
          have HF3 := Lib.hid F3
          have HT3 := Lib.hid (HT2.out.trans (t3.mono (by simp)))
          rw [stp_stp] at R3
          have HR3 := Lib.hid R3
          clear t3 R3 F3 HF2 HT2 HR2 KN hq D3 HD2
          simp only [gotT, show ((fmK 0 : Nat) : Int) = 0 from rfl]
          rcases (show v = 0 ∨ 16384 < v ∨ (v ≠ 0 ∧ v ≤ 16384) from by omega) with h0 | h0 | ⟨h0, h1⟩
          · have hR := HJ.out.symm.trans (nums_bad (r := 2) (fun h => absurd h.1 (by decide)) eg (.inl h0))
            have HFP := Lib.hid (fp_nums (W := W0) (c := c) (l := l) (x := x) hqs HV.out HN.out hR (by decide))
            have d6 : ((v : Int) == 0) = true := by rw [beq_iff_eq]; omega
            clear h0
            clear hR eg HJ
            go_wp2_with fail
            refine (pfault_calls 2 f _).mono ?_
            rintro e w5 ⟨rfl, g5⟩
            have HR5 := Lib.hid ((HR3.out.grown (World.grownBy_alloc _ _ none)).grown g5)
            have HT5 := Lib.hid ((HT3.out.al (o := .cells #[.int .i64 0, .int .i64 0, .int .i64 0] 34)).trans (Tn.gb g5 (by simp)))
            have HF5 := Lib.hid ((Fl.al HF3.out (.cells #[.int .i64 0, .int .i64 0, .int .i64 0] 34)).turned (Tn.gb g5 (S := [c, l]) (by simp)) HNI)
            clear g5 HR3 HT3 HF3
            have F9 : Fl r 0 0 0 w5 := HF5.out
            have q0 := F9.c0
            have q1 := F9.c1
            have q2 := F9.c2
            have f0 := F9.free 0
            have f1 := F9.free 1
            have f2 := F9.free 2
            have hr9 := F9.lt
            clear F9
            go_wp2
            refine bodyPost_ret (v := .agg #[.int .i64 2, .int .i64 3, .int .i64 f]) (by simp only [results, Tryz.results56]; go_simp) rfl ⟨q, hqs, (Tn.own3 HT5.out HRW.out), .inl ⟨2, 3, f, _, rfl, (HR5.out.st3 HC.out HL.out), HFP.out⟩⟩
          · have hR := HJ.out.symm.trans (nums_big (r := 2) (fun h => absurd h.1 (by decide)) eg (by omega) ⟨by decide, h0⟩)
            have HFP := Lib.hid (fp_nums (W := W0) (c := c) (l := l) (x := x) hqs HV.out HN.out hR (by decide))
            have d6 : ((v : Int) == 0) = false := by rw [beq_eq_false_iff_ne]; omega
            have d7 : decide ((16384 : Int) < v) = true := decide_eq_true (by omega)
            clear hR eg HJ
            go_wp2_with fail
            refine (pfault_calls 3 f _).mono ?_
            rintro e w5 ⟨rfl, g5⟩
            have HR5 := Lib.hid ((HR3.out.grown (World.grownBy_alloc _ _ none)).grown g5)
            have HT5 := Lib.hid ((HT3.out.al (o := .cells #[.int .i64 0, .int .i64 0, .int .i64 0] 34)).trans (Tn.gb g5 (by simp)))
            have HF5 := Lib.hid ((Fl.al HF3.out (.cells #[.int .i64 0, .int .i64 0, .int .i64 0] 34)).turned (Tn.gb g5 (S := [c, l]) (by simp)) HNI)
            clear g5 HR3 HT3 HF3
            have F9 : Fl r 0 0 0 w5 := HF5.out
            have q0 := F9.c0
            have q1 := F9.c1
            have q2 := F9.c2
            have f0 := F9.free 0
            have f1 := F9.free 1
            have f2 := F9.free 2
            have hr9 := F9.lt
            clear F9
            go_wp2
            refine bodyPost_ret (v := .agg #[.int .i64 3, .int .i64 3, .int .i64 f]) (by simp only [results, Tryz.results56]; go_simp) rfl ⟨q, hqs, (Tn.own3 HT5.out HRW.out), .inl ⟨3, 3, f, _, rfl, (HR5.out.st3 HC.out HL.out), HFP.out⟩⟩
          · have hR := (nums_on (r := 2) (fun h => absurd h.1 (by decide)) eg (by omega) (by omega)).symm.trans HJ.out
            have HR4 := Lib.hid hR
            have d6 : ((v : Int) == 0) = false := by rw [beq_eq_false_iff_ne]; omega
            have d7 : decide ((16384 : Int) < v) = false := decide_eq_false (by omega)
            clear hR eg HJ
            have q1 := HD3.out.c1
            have f1 := HD3.out.free 1
            go_wp2_with fail
            go_roundg 2
            case measure => omega
            case rel => exact ⟨1, q, v, h, m, _, by decide, hjs, rfl, by go_num, HR4.out, (HR3.out.st HNC.out.symm HNL.out.symm).grown (World.grownBy_alloc _ _ none), (HD3.out.set1 v).al _, Fl.al (Fl.oth HF3.out hrh) _, (HT3.out.st (by simp)).al⟩
        · have hno' : x.s < x.st + ((n + numN s a : Nat) : Int) := by
            rw [stp_s, stp_st] at hno
            omega
          have HFP := Lib.hid (fp_nspent (W := W0) (c := c) (l := l) hqs HN.out (by rw [← HJ.out]; exact nums_ge (z := ⟨0, 0, a, w, h, m, n⟩) (r := 2) (fun h => absurd h.1 (by decide)) ha) hno')
          have F3 := HF2.out.turned t3 HNI
          have HF3 := Lib.hid F3
          have HT3 := Lib.hid (HT2.out.trans (t3.mono (by simp)))
          have HR3 := Lib.hid R3
          clear hno hno' t3 R3 F3 HF2 HT2 HR2 KN
          simp only [noT]
          have F9 : Fl r 0 0 0 w3 := HF3.out
          have q0 := F9.c0
          have q1 := F9.c1
          have q2 := F9.c2
          have f0 := F9.free 0
          have f1 := F9.free 1
          have f2 := F9.free 2
          have hr9 := F9.lt
          clear F9
          go_wp2
          refine bodyPost_ret (v := .agg #[.int .i64 4, .int .i64 3, .int .i64 q]) (by simp only [results, Tryz.results56]; go_simp) rfl ⟨q, hqs, (Tn.own3 HT3.out HRW.out).al, .inl ⟨4, 3, q, _, rfl, ((HR3.out.st3 HC.out HL.out).grown (World.grownBy_alloc _ _ none)), HFP.out⟩⟩
    · have hix := idx_1 hd
      have KN := number_calls c l s a _ wr HR2.out HX.out
      rcases gotV_gd s a ha with ⟨kd, pl, eg, hk0, hk3, hpl, _⟩ | ⟨v, f, j, eg, hkf, hfj, hjs, hv, hNj⟩
      · rw [eg] at KN
        have KN := Lib.hid KN
        have hR := HJ.out.symm.trans (nums_fault (r := 1) (fun h => absurd h.1 (by decide)) eg hk0)
        have d5 : ((kd : Int) == 0) = false := by rw [beq_eq_false_iff_ne]; omega
        have d5' : ((kd : Int) != 0) = true := by rw [bne_iff_ne]; omega
        have h3 := Lib.hid (fmK_pos' hk0)
        clear eg
        go_wp2_with fail
        refine KN.out.mono ?_
        rintro e w3 ⟨q, hpq, hqs, t3, ⟨rfl, _, R3⟩ | ⟨hno, rfl, R3⟩⟩
        · have HFP := Lib.hid (fp_nums (W := W0) (c := c) (l := l) (x := x) hqs HV.out HN.out hR hk0)
          have F3 := HF2.out.turned t3 HNI
          have hr3 := F3.lt
          have HF3 := Lib.hid F3
          have HT3 := Lib.hid (HT2.out.trans (t3.mono (by simp)))
          rw [stp_stp] at R3
          have HR3 := Lib.hid R3
          clear hR t3 R3 F3 HF2 HT2 HR2 KN HJ
          simp only [gotT]
          rw [h3.out]
          have F9 : Fl r 0 0 0 w3 := HF3.out
          have q0 := F9.c0
          have q1 := F9.c1
          have q2 := F9.c2
          have f0 := F9.free 0
          have f1 := F9.free 1
          have f2 := F9.free 2
          have hr9 := F9.lt
          clear F9
          go_wp2
          refine bodyPost_ret (v := .agg #[.int .i64 kd, .int .i64 3, .int .i64 pl]) (by simp only [results, Tryz.results56]; go_simp) rfl ⟨q, hqs, (Tn.own3 HT3.out HRW.out).al, .inl ⟨kd, 3, pl, _, rfl, ((HR3.out.st3 HC.out HL.out).grown (World.grownBy_alloc _ _ none)), HFP.out⟩⟩
        · have hno' : x.s < x.st + ((n + numN s a : Nat) : Int) := by
            rw [stp_s, stp_st] at hno
            omega
          have HFP := Lib.hid (fp_nspent (W := W0) (c := c) (l := l) hqs HN.out (by rw [← HJ.out]; exact nums_ge (z := ⟨0, 0, a, w, h, m, n⟩) (r := 1) (fun h => absurd h.1 (by decide)) ha) hno')
          have F3 := HF2.out.turned t3 HNI
          have HF3 := Lib.hid F3
          have HT3 := Lib.hid (HT2.out.trans (t3.mono (by simp)))
          have HR3 := Lib.hid R3
          clear hR hno hno' t3 R3 F3 HF2 HT2 HR2 KN
          simp only [noT]
          have F9 : Fl r 0 0 0 w3 := HF3.out
          have q0 := F9.c0
          have q1 := F9.c1
          have q2 := F9.c2
          have f0 := F9.free 0
          have f1 := F9.free 1
          have f2 := F9.free 2
          have hr9 := F9.lt
          clear F9
          go_wp2
          refine bodyPost_ret (v := .agg #[.int .i64 4, .int .i64 3, .int .i64 q]) (by simp only [results, Tryz.results56]; go_simp) rfl ⟨q, hqs, (Tn.own3 HT3.out HRW.out).al, .inl ⟨4, 3, q, _, rfl, ((HR3.out.st3 HC.out HL.out).grown (World.grownBy_alloc _ _ none)), HFP.out⟩⟩
      · rw [eg] at KN
        have KN := Lib.hid KN
        go_wp2_with fail
        refine KN.out.mono ?_
        rintro e w3 ⟨q, hpq, hqs, t3, ⟨rfl, hq, R3⟩ | ⟨hno, rfl, R3⟩⟩
        · obtain rfl : q = j := hq rfl
          have D3 := HD2.out.turned t3 HNH
          have hd3 := D3.lt
          have HD3 := Lib.hid D3
          have F3 := HF2.out.turned t3 HNI
          have hr3 := F3.lt
          have HF3 := Lib.hid F3
          have HT3 := Lib.hid (HT2.out.trans (t3.mono (by simp)))
          rw [stp_stp] at R3
          have HR3 := Lib.hid R3
          clear t3 R3 F3 HF2 HT2 HR2 KN hq D3 HD2
          simp only [gotT, show ((fmK 0 : Nat) : Int) = 0 from rfl]
          rcases (show v = 0 ∨ 16384 < v ∨ (v ≠ 0 ∧ v ≤ 16384) from by omega) with h0 | h0 | ⟨h0, h1⟩
          · have hR := HJ.out.symm.trans (nums_bad (r := 1) (fun h => absurd h.1 (by decide)) eg (.inl h0))
            have HFP := Lib.hid (fp_nums (W := W0) (c := c) (l := l) (x := x) hqs HV.out HN.out hR (by decide))
            have d6 : ((v : Int) == 0) = true := by rw [beq_iff_eq]; omega
            clear h0
            clear hR eg HJ
            go_wp2_with fail
            refine (pfault_calls 2 f _).mono ?_
            rintro e w5 ⟨rfl, g5⟩
            have HR5 := Lib.hid ((HR3.out.grown (World.grownBy_alloc _ _ none)).grown g5)
            have HT5 := Lib.hid ((HT3.out.al (o := .cells #[.int .i64 0, .int .i64 0, .int .i64 0] 34)).trans (Tn.gb g5 (by simp)))
            have HF5 := Lib.hid ((Fl.al HF3.out (.cells #[.int .i64 0, .int .i64 0, .int .i64 0] 34)).turned (Tn.gb g5 (S := [c, l]) (by simp)) HNI)
            clear g5 HR3 HT3 HF3
            have F9 : Fl r 0 0 0 w5 := HF5.out
            have q0 := F9.c0
            have q1 := F9.c1
            have q2 := F9.c2
            have f0 := F9.free 0
            have f1 := F9.free 1
            have f2 := F9.free 2
            have hr9 := F9.lt
            clear F9
            go_wp2
            refine bodyPost_ret (v := .agg #[.int .i64 2, .int .i64 3, .int .i64 f]) (by simp only [results, Tryz.results56]; go_simp) rfl ⟨q, hqs, (Tn.own3 HT5.out HRW.out), .inl ⟨2, 3, f, _, rfl, (HR5.out.st3 HC.out HL.out), HFP.out⟩⟩
          · have hR := HJ.out.symm.trans (nums_big (r := 1) (fun h => absurd h.1 (by decide)) eg (by omega) ⟨by decide, h0⟩)
            have HFP := Lib.hid (fp_nums (W := W0) (c := c) (l := l) (x := x) hqs HV.out HN.out hR (by decide))
            have d6 : ((v : Int) == 0) = false := by rw [beq_eq_false_iff_ne]; omega
            have d7 : decide ((16384 : Int) < v) = true := decide_eq_true (by omega)
            clear hR eg HJ
            go_wp2_with fail
            refine (pfault_calls 3 f _).mono ?_
            rintro e w5 ⟨rfl, g5⟩
            have HR5 := Lib.hid ((HR3.out.grown (World.grownBy_alloc _ _ none)).grown g5)
            have HT5 := Lib.hid ((HT3.out.al (o := .cells #[.int .i64 0, .int .i64 0, .int .i64 0] 34)).trans (Tn.gb g5 (by simp)))
            have HF5 := Lib.hid ((Fl.al HF3.out (.cells #[.int .i64 0, .int .i64 0, .int .i64 0] 34)).turned (Tn.gb g5 (S := [c, l]) (by simp)) HNI)
            clear g5 HR3 HT3 HF3
            have F9 : Fl r 0 0 0 w5 := HF5.out
            have q0 := F9.c0
            have q1 := F9.c1
            have q2 := F9.c2
            have f0 := F9.free 0
            have f1 := F9.free 1
            have f2 := F9.free 2
            have hr9 := F9.lt
            clear F9
            go_wp2
            refine bodyPost_ret (v := .agg #[.int .i64 3, .int .i64 3, .int .i64 f]) (by simp only [results, Tryz.results56]; go_simp) rfl ⟨q, hqs, (Tn.own3 HT5.out HRW.out), .inl ⟨3, 3, f, _, rfl, (HR5.out.st3 HC.out HL.out), HFP.out⟩⟩
          · have hR := (nums_on (r := 1) (fun h => absurd h.1 (by decide)) eg (by omega) (by omega)).symm.trans HJ.out
            have HR4 := Lib.hid hR
            have d6 : ((v : Int) == 0) = false := by rw [beq_eq_false_iff_ne]; omega
            have d7 : decide ((16384 : Int) < v) = false := decide_eq_false (by omega)
            clear hR eg HJ
            have q2 := HD3.out.c2
            have f2 := HD3.out.free 2
            go_wp2_with fail
            go_roundg 1
            case measure => omega
            case rel => exact ⟨2, q, w, v, m, _, by decide, hjs, rfl, by go_num, HR4.out, (HR3.out.st HNC.out.symm HNL.out.symm).grown (World.grownBy_alloc _ _ none), (HD3.out.set2 v).al _, Fl.al (Fl.oth HF3.out hrh) _, (HT3.out.st (by simp)).al⟩
        · have hno' : x.s < x.st + ((n + numN s a : Nat) : Int) := by
            rw [stp_s, stp_st] at hno
            omega
          have HFP := Lib.hid (fp_nspent (W := W0) (c := c) (l := l) hqs HN.out (by rw [← HJ.out]; exact nums_ge (z := ⟨0, 0, a, w, h, m, n⟩) (r := 1) (fun h => absurd h.1 (by decide)) ha) hno')
          have F3 := HF2.out.turned t3 HNI
          have HF3 := Lib.hid F3
          have HT3 := Lib.hid (HT2.out.trans (t3.mono (by simp)))
          have HR3 := Lib.hid R3
          clear hno hno' t3 R3 F3 HF2 HT2 HR2 KN
          simp only [noT]
          have F9 : Fl r 0 0 0 w3 := HF3.out
          have q0 := F9.c0
          have q1 := F9.c1
          have q2 := F9.c2
          have f0 := F9.free 0
          have f1 := F9.free 1
          have f2 := F9.free 2
          have hr9 := F9.lt
          clear F9
          go_wp2
          refine bodyPost_ret (v := .agg #[.int .i64 4, .int .i64 3, .int .i64 q]) (by simp only [results, Tryz.results56]; go_simp) rfl ⟨q, hqs, (Tn.own3 HT3.out HRW.out).al, .inl ⟨4, 3, q, _, rfl, ((HR3.out.st3 HC.out HL.out).grown (World.grownBy_alloc _ _ none)), HFP.out⟩⟩
    · have hix := idx_2 hd
      have KB := fun u => bitmap_calls k u
      by_cases hbit : k = 1 ∨ k = 4
      · have hR : R = ⟨0, 0, a, w, h, m, n⟩ := by
          have := HJ.out
          rw [nums_bit hbit] at this
          exact this.symm
        simp only [(orB_iff 1 4 (k : Int)).2 (by omega)] at KB
        have KB := Lib.hid KB
        have q0 := HD2.out.c0
        have HRE := Lib.hid hR
        clear HJ hbit hR
        go_wp2_with fail
        refine (KB.out _).mono ?_
        rintro e w' ⟨rfl, rfl⟩
        clear q0
        have F9 : Fl r 0 0 0 wr := HF2.out
        have q0 := F9.c0
        have q1 := F9.c1
        have q2 := F9.c2
        have f0 := F9.free 0
        have f1 := F9.free 1
        have f2 := F9.free 2
        have hr9 := F9.lt
        clear F9
        go_wp2
        refine bodyPost_ret (v := okF) (by simp only [results, Tryz.results56, okF]; go_simp) rfl ⟨a, ha, Tn.own3 HT2.out HRW.out, .inr ⟨by rw [HRE.out], by rw [HRE.out], rfl, by rw [HRE.out]; exact HR2.out.st3 HC.out HL.out, by rw [HRE.out]; exact ((HD2.out.oth hhr).oth hhr).oth hhr⟩⟩
      · simp only [(orB_not 1 4 (k : Int)).2 (by omega)] at KB
        have KB := Lib.hid KB
        have KN := number_calls c l s a _ wr HR2.out HX.out
        rcases gotV_gd s a ha with ⟨kd, pl, eg, hk0, hk3, hpl, _⟩ | ⟨v, f, j, eg, hkf, hfj, hjs, hv, hNj⟩
        · rw [eg] at KN
          have KN := Lib.hid KN
          have hR := HJ.out.symm.trans (nums_fault (r := 0) (fun h => hbit h.2) eg hk0)
          have d5 : ((kd : Int) == 0) = false := by rw [beq_eq_false_iff_ne]; omega
          have d5' : ((kd : Int) != 0) = true := by rw [bne_iff_ne]; omega
          have h3 := Lib.hid (fmK_pos' hk0)
          clear eg
          have q0 := HD2.out.c0
          go_wp2_with fail
          refine (KB.out _).mono ?_
          rintro e w' ⟨rfl, rfl⟩
          go_wp2_with fail
          refine KN.out.mono ?_
          rintro e w3 ⟨q, hpq, hqs, t3, ⟨rfl, _, R3⟩ | ⟨hno, rfl, R3⟩⟩
          · have HFP := Lib.hid (fp_nums (W := W0) (c := c) (l := l) (x := x) hqs HV.out HN.out hR hk0)
            have F3 := HF2.out.turned t3 HNI
            have hr3 := F3.lt
            have HF3 := Lib.hid F3
            have HT3 := Lib.hid (HT2.out.trans (t3.mono (by simp)))
            rw [stp_stp] at R3
            have HR3 := Lib.hid R3
            clear hR t3 R3 F3 HF2 HT2 HR2 KN HJ q0
            simp only [gotT]
            rw [h3.out]
            have F9 : Fl r 0 0 0 w3 := HF3.out
            have q0 := F9.c0
            have q1 := F9.c1
            have q2 := F9.c2
            have f0 := F9.free 0
            have f1 := F9.free 1
            have f2 := F9.free 2
            have hr9 := F9.lt
            clear F9
            go_wp2
            refine bodyPost_ret (v := .agg #[.int .i64 kd, .int .i64 3, .int .i64 pl]) (by simp only [results, Tryz.results56]; go_simp) rfl ⟨q, hqs, (Tn.own3 HT3.out HRW.out).al, .inl ⟨kd, 3, pl, _, rfl, ((HR3.out.st3 HC.out HL.out).grown (World.grownBy_alloc _ _ none)), HFP.out⟩⟩
          · have hno' : x.s < x.st + ((n + numN s a : Nat) : Int) := by
              rw [stp_s, stp_st] at hno
              omega
            have HFP := Lib.hid (fp_nspent (W := W0) (c := c) (l := l) hqs HN.out (by rw [← HJ.out]; exact nums_ge (z := ⟨0, 0, a, w, h, m, n⟩) (r := 0) (fun h => hbit h.2) ha) hno')
            have F3 := HF2.out.turned t3 HNI
            have HF3 := Lib.hid F3
            have HT3 := Lib.hid (HT2.out.trans (t3.mono (by simp)))
            have HR3 := Lib.hid R3
            clear hR hno hno' t3 R3 F3 HF2 HT2 HR2 KN
            simp only [noT]
            have F9 : Fl r 0 0 0 w3 := HF3.out
            have q0 := F9.c0
            have q1 := F9.c1
            have q2 := F9.c2
            have f0 := F9.free 0
            have f1 := F9.free 1
            have f2 := F9.free 2
            have hr9 := F9.lt
            clear F9
            go_wp2
            refine bodyPost_ret (v := .agg #[.int .i64 4, .int .i64 3, .int .i64 q]) (by simp only [results, Tryz.results56]; go_simp) rfl ⟨q, hqs, (Tn.own3 HT3.out HRW.out).al, .inl ⟨4, 3, q, _, rfl, ((HR3.out.st3 HC.out HL.out).grown (World.grownBy_alloc _ _ none)), HFP.out⟩⟩
        · rw [eg] at KN
          have KN := Lib.hid KN
          have q0 := HD2.out.c0
          go_wp2_with fail
          refine (KB.out _).mono ?_
          rintro e w' ⟨rfl, rfl⟩
          go_wp2_with fail
          refine KN.out.mono ?_
          rintro e w3 ⟨q, hpq, hqs, t3, ⟨rfl, hq, R3⟩ | ⟨hno, rfl, R3⟩⟩
          · obtain rfl : q = j := hq rfl
            have D3 := HD2.out.turned t3 HNH
            have hd3 := D3.lt
            have HD3 := Lib.hid D3
            have F3 := HF2.out.turned t3 HNI
            have hr3 := F3.lt
            have HF3 := Lib.hid F3
            have HT3 := Lib.hid (HT2.out.trans (t3.mono (by simp)))
            rw [stp_stp] at R3
            have HR3 := Lib.hid R3
            clear t3 R3 F3 HF2 HT2 HR2 KN hq D3 HD2 q0
            simp only [gotT, show ((fmK 0 : Nat) : Int) = 0 from rfl]
            rcases (show (v = 0 ∨ 65535 < v) ∨ (v ≠ 0 ∧ v ≤ 65535) from by omega) with h0 | ⟨h0, h1⟩
            · have hR := HJ.out.symm.trans (nums_bad (r := 0) (fun h => hbit h.2) eg (by omega))
              have HFP := Lib.hid (fp_nums (W := W0) (c := c) (l := l) (x := x) hqs HV.out HN.out hR (by decide))
              have hmo := (rgB_not 1 65535 (v : Int)).2 (by omega)
              clear hR eg HJ
              go_wp2_with fail
              refine (isMost_calls v _).mono ?_
              rintro e w' ⟨rfl, rfl⟩
              rw [hmo]
              go_wp2_with fail
              refine (pfault_calls 2 f _).mono ?_
              rintro e w5 ⟨rfl, g5⟩
              have HR5 := Lib.hid ((HR3.out.grown (World.grownBy_alloc _ _ none)).grown g5)
              have HT5 := Lib.hid ((HT3.out.al (o := .cells #[.int .i64 0, .int .i64 0, .int .i64 0] 34)).trans (Tn.gb g5 (by simp)))
              have HF5 := Lib.hid ((Fl.al HF3.out (.cells #[.int .i64 0, .int .i64 0, .int .i64 0] 34)).turned (Tn.gb g5 (S := [c, l]) (by simp)) HNI)
              clear g5 HR3 HT3 HF3
              have F9 : Fl r 0 0 0 w5 := HF5.out
              have q0 := F9.c0
              have q1 := F9.c1
              have q2 := F9.c2
              have f0 := F9.free 0
              have f1 := F9.free 1
              have f2 := F9.free 2
              have hr9 := F9.lt
              clear F9
              go_wp2
              refine bodyPost_ret (v := .agg #[.int .i64 2, .int .i64 3, .int .i64 f]) (by simp only [results, Tryz.results56]; go_simp) rfl ⟨q, hqs, (Tn.own3 HT5.out HRW.out), .inl ⟨2, 3, f, _, rfl, (HR5.out.st3 HC.out HL.out), HFP.out⟩⟩
            · have hR := (nums_on (r := 0) (fun h => hbit h.2) eg (by omega) (by omega)).symm.trans HJ.out
              have HR4 := Lib.hid hR
              have hmo := (rgB_iff 1 65535 (v : Int)).2 (by omega)
              clear hR eg HJ
              have q3 := HD3.out.c3
              have f3 := HD3.out.free 3
              go_wp2_with fail
              refine (isMost_calls v _).mono ?_
              rintro e w' ⟨rfl, rfl⟩
              rw [hmo]
              go_wp2
              go_roundg 0
              case measure => omega
              case rel => exact ⟨3, q, w, h, v, _, by decide, hjs, rfl, by go_num, HR4.out, (HR3.out.st HNC.out.symm HNL.out.symm).grown (World.grownBy_alloc _ _ none), (HD3.out.set3 v).al _, Fl.al (Fl.oth HF3.out hrh) _, (HT3.out.st (by simp)).al⟩
          · have hno' : x.s < x.st + ((n + numN s a : Nat) : Int) := by
              rw [stp_s, stp_st] at hno
              omega
            have HFP := Lib.hid (fp_nspent (W := W0) (c := c) (l := l) hqs HN.out (by rw [← HJ.out]; exact nums_ge (z := ⟨0, 0, a, w, h, m, n⟩) (r := 0) (fun h => hbit h.2) ha) hno')
            have F3 := HF2.out.turned t3 HNI
            have HF3 := Lib.hid F3
            have HT3 := Lib.hid (HT2.out.trans (t3.mono (by simp)))
            have HR3 := Lib.hid R3
            clear hno hno' t3 R3 F3 HF2 HT2 HR2 KN
            simp only [noT]
            have F9 : Fl r 0 0 0 w3 := HF3.out
            have q0 := F9.c0
            have q1 := F9.c1
            have q2 := F9.c2
            have f0 := F9.free 0
            have f1 := F9.free 1
            have f2 := F9.free 2
            have hr9 := F9.lt
            clear F9
            go_wp2
            refine bodyPost_ret (v := .agg #[.int .i64 4, .int .i64 3, .int .i64 q]) (by simp only [results, Tryz.results56]; go_simp) rfl ⟨q, hqs, (Tn.own3 HT3.out HRW.out).al, .inl ⟨4, 3, q, _, rfl, ((HR3.out.st3 HC.out HL.out).grown (World.grownBy_alloc _ _ none)), HFP.out⟩⟩
    · have HRE := Lib.hid (show R = ⟨0, 0, a, w, h, m, n⟩ from HJ.out.symm)
      clear HJ
      have F9 : Fl r 0 0 0 wr := HF2.out
      have q0 := F9.c0
      have q1 := F9.c1
      have q2 := F9.c2
      have f0 := F9.free 0
      have f1 := F9.free 1
      have f2 := F9.free 2
      have hr9 := F9.lt
      clear F9
      go_wp2
      refine bodyPost_ret (v := okF) (by simp only [results, Tryz.results56, okF]; go_simp) rfl ⟨a, ha, Tn.own3 HT2.out HRW.out, .inr ⟨by rw [HRE.out], by rw [HRE.out], rfl, by rw [HRE.out]; exact HR2.out.st3 HC.out HL.out, by rw [HRE.out]; exact ((HD2.out.oth hhr).oth hhr).oth hhr⟩⟩

end Go.Proofs.YtcfdippcobkbaaaGreat.Ph

/- Package pnmhead: a head is read (written by wip/gen/pnh7.py). -/
namespace Go.Proofs.YtcfdippcobkbaaaGreat.Ph
open Go.ChangeShapes Go.WideShapes Go.ChangeAt Go.RowKit
open Go.Proofs.YtcfdippcobkbaaaGreat.Le Go.Proofs.YtcfdippcobkbaaaGreat.Sr Go.Proofs.YtcfdippcobkbaaaGreat.Tk
set_option linter.unusedVariables false

set_option maxRecDepth 100000 in
set_option maxHeartbeats 8000000 in
theorem read_calls (c l : Nat) (s : ByteArray) (x : St) (W : World) (h : Rd c l s 0 x W) (hr : x.r = 0) :
    Calls Tryz.prog 36 #[.pointer (some ⟨c, 0, none⟩)] W (RP W c l s x) := by
  have hcw := h.clt
  have hlw := h.llt
  have hbig := h.so.big
  obtain ⟨ra, hra⟩ : ∃ r, W.heap.size = r := ⟨_, rfl⟩
  have hz0 := size_alloc W (.cells #[.int .i64 0, .int .i64 0, .int .i64 0, .int .i64 0, .int .i64 0] 70)
  have HA0 : Hc ra 0 0 0 0 0 (W.alloc (.cells #[.int .i64 0, .int .i64 0, .int .i64 0, .int .i64 0, .int .i64 0] 70)) := by
    rw [← hra]
    exact blk_at
  have HB0 : Fl (ra + 1) 0 0 0 ((W.alloc (.cells #[.int .i64 0, .int .i64 0, .int .i64 0, .int .i64 0, .int .i64 0] 70)).alloc (.cells #[.int .i64 0, .int .i64 0, .int .i64 0] 34)) := by
    have := Fl.new (W.alloc (.cells #[.int .i64 0, .int .i64 0, .int .i64 0, .int .i64 0, .int .i64 0] 70))
    rw [hz0, hra] at this
    exact this
  have HA0 := HA0.al (.cells #[.int .i64 0, .int .i64 0, .int .i64 0] 34)
  have g0 := gb_trans (World.grownBy_alloc W (.cells #[.int .i64 0, .int .i64 0, .int .i64 0, .int .i64 0, .int .i64 0] 70) none) (World.grownBy_alloc _ (.cells #[.int .i64 0, .int .i64 0, .int .i64 0] 34) none)
  have HR0 := h.grown g0
  have HT0 : Tn W _ [c, l] := Tn.gb g0 (by simp)
  have KK := Lib.hid (kind_calls c l s x W _ HR0 hr)
  have HA0 := Lib.hid HA0
  have HB0 := Lib.hid HB0
  have HT0 := Lib.hid HT0
  have HX := Lib.hid hr
  have HCR : c < ra := by omega
  have HLR : l < ra := by omega
  clear h hr g0 HR0 hcw hlw hz0
  go_enter Tryz.func36, Tryz.ntmps36
  go_wp2_with fail
  have HRA := Lib.hid hra
  clear hra
  generalize (W.alloc (.cells #[.int .i64 0, .int .i64 0, .int .i64 0, .int .i64 0, .int .i64 0] 70)).alloc (.cells #[.int .i64 0, .int .i64 0, .int .i64 0] 34) = w0 at HA0 HB0 HT0 KK ⊢
  obtain ⟨rb, hrb⟩ : ∃ r, ra + 1 = r := ⟨_, rfl⟩
  rw [hrb] at HB0 ⊢
  have HRB := Lib.hid hrb
  have HNA : ra ∉ [c, l] := by simp; omega
  have HNB : rb ∉ [c, l] := by simp; omega
  have hab : ¬ ra = rb := by omega
  have hba : ¬ rb = ra := by omega
  clear hrb
  refine KK.out.mono ?_
  rintro e w1 ⟨q, hq, T1, ⟨k, f, a, y, rfl, R1, P⟩ | ⟨k, hk1, hk6, hs2, hb0, hb1, rfl, R1⟩⟩
  · have A1 := HA0.out.turned T1 HNA
    have B1 := HB0.out.turned T1 HNB
    have hb1 := B1.lt
    have hne : ¬ w1.heap.size = rb := by omega
    have hne' : ¬ rb = w1.heap.size := by omega
    have ha1 := A1.lt
    have hne2 : ¬ w1.heap.size = ra := by omega
    have hne2' : ¬ ra = w1.heap.size := by omega
    have V2 : Fl w1.heap.size k f a (w1.alloc (.cells #[.int .i64 k, .int .i64 f, .int .i64 a] 34)) := blk_at
    have HV2 := Lib.hid V2
    have HA2 := Lib.hid (A1.al (.cells #[.int .i64 k, .int .i64 f, .int .i64 a] 34))
    have HB2 := Lib.hid (Fl.al B1 (.cells #[.int .i64 k, .int .i64 f, .int .i64 a] 34))
    have HT2 := Lib.hid ((HT0.out.trans T1).al (o := .cells #[.int .i64 k, .int .i64 f, .int .i64 a] 34))
    have HR2 := Lib.hid (R1.grown (World.grownBy_alloc w1 (.cells #[.int .i64 k, .int .i64 f, .int .i64 a] 34) none))
    have HP := Lib.hid P
    have d0 : (k == 0) = false := by rw [beq_eq_false_iff_ne]; exact P.1
    have d0' : (k != 0) = true := by rw [bne_iff_ne]; exact P.1
    clear A1 B1 T1 R1 P V2 KK HA0 HB0 HT0
    simp only [bfT]
    go_wp2_with fail
    generalize w1.alloc (.cells #[.int .i64 k, .int .i64 f, .int .i64 a] 34) = w2 at HV2 HA2 HB2 HT2 HR2 ⊢
    have A9 := HA2.out
    have aq0 := A9.c0
    have aq1 := A9.c1
    have aq2 := A9.c2
    have aq3 := A9.c3
    have aq4 := A9.c4
    have af0 := A9.free 0
    have af1 := A9.free 1
    have af2 := A9.free 2
    have af3 := A9.free 3
    have af4 := A9.free 4
    have alt := A9.lt
    clear A9
    have B9 := HB2.out
    have bq0 := B9.c0
    have bq1 := B9.c1
    have bq2 := B9.c2
    have bf0 := B9.free 0
    have bf1 := B9.free 1
    have bf2 := B9.free 2
    have blt := B9.lt
    clear B9
    have V9 := HV2.out
    have vq0 := V9.c0
    have vq1 := V9.c1
    have vq2 := V9.c2
    have vf0 := V9.free 0
    have vf1 := V9.free 1
    have vf2 := V9.free 2
    have vlt := V9.lt
    clear V9
    go_region
    go_wp2
    refine bodyPost_ret (v := fdT k f a) (by simp only [results, Tryz.results36, fdT]; go_simp) rfl ?_
    refine HP.out.2 _ ?_ ?_
    · have h1 := HRA.out
      have h2 := HRB.out
      repeat' first | with_reducible exact HT2.out | with_reducible refine Tn.own1 ?_ (by omega) | with_reducible refine Tn.dr ?_ | with_reducible refine Tn.al ?_
    · have h2 := HRB.out
      repeat' first | with_reducible exact HR2.out | with_reducible refine Rd.st ?_ (by omega) (by omega) | with_reducible refine Rd.grown ?_ (gb_drew _ _) | with_reducible refine Rd.grown ?_ (World.grownBy_alloc _ _ none)
  · have A1 := HA0.out.turned T1 HNA
    have B1 := HB0.out.turned T1 HNB
    have hb1' := B1.lt
    have ha1 := A1.lt
    have V2 : Fl w1.heap.size 0 0 0 (w1.alloc (.cells #[.int .i64 0, .int .i64 0, .int .i64 0] 34)) := blk_at
    have hz1 := size_alloc w1 (.cells #[.int .i64 0, .int .i64 0, .int .i64 0] 34)
    have HV2 := Lib.hid V2
    have HA2 := Lib.hid (A1.al (.cells #[.int .i64 0, .int .i64 0, .int .i64 0] 34))
    have HB2 := Lib.hid (Fl.al B1 (.cells #[.int .i64 0, .int .i64 0, .int .i64 0] 34))
    have HT2 := Lib.hid ((HT0.out.trans T1).al (o := .cells #[.int .i64 0, .int .i64 0, .int .i64 0] 34))
    have HR2 := Lib.hid (R1.grown (World.grownBy_alloc w1 (.cells #[.int .i64 0, .int .i64 0, .int .i64 0] 34) none))
    obtain ⟨vb, hvb⟩ : ∃ v, w1.heap.size = v := ⟨_, rfl⟩
    rw [hvb] at HV2 hz1
    have hvlt : ra < vb ∧ rb < vb := by omega
    clear A1 B1 T1 R1 V2 KK HA0 HB0 HT0
    simp only [bfT]
    go_wp2_with fail
    generalize w1.alloc (.cells #[.int .i64 0, .int .i64 0, .int .i64 0] 34) = w2 at HV2 HA2 HB2 HT2 HR2 hz1 ⊢
    have D3 : Hc (vb + 1) k 0 0 1 0 (w2.alloc (.cells #[.int .i64 k, .int .i64 0, .int .i64 0, .int .i64 1, .int .i64 0] 70)) := by
      have := blk_at (w := w2) (o := .cells #[.int .i64 k, .int .i64 0, .int .i64 0, .int .i64 1, .int .i64 0] 70)
      rw [hz1] at this
      exact this
    have HV3 := Lib.hid (Fl.al HV2.out (.cells #[.int .i64 k, .int .i64 0, .int .i64 0, .int .i64 1, .int .i64 0] 70))
    have HA3 := Lib.hid (HA2.out.al (.cells #[.int .i64 k, .int .i64 0, .int .i64 0, .int .i64 1, .int .i64 0] 70))
    have HB3 := Lib.hid (Fl.al HB2.out (.cells #[.int .i64 k, .int .i64 0, .int .i64 0, .int .i64 1, .int .i64 0] 70))
    have HT3 := Lib.hid (HT2.out.al (o := .cells #[.int .i64 k, .int .i64 0, .int .i64 0, .int .i64 1, .int .i64 0] 70))
    have HR3 := Lib.hid (HR2.out.grown (World.grownBy_alloc w2 (.cells #[.int .i64 k, .int .i64 0, .int .i64 0, .int .i64 1, .int .i64 0] 70) none))
    have HD3 := Lib.hid D3
    have HZ1 := Lib.hid hz1
    clear HV2 HA2 HB2 HT2 HR2 D3 hvb hz1
    generalize w2.alloc (.cells #[.int .i64 k, .int .i64 0, .int .i64 0, .int .i64 1, .int .i64 0] 70) = w3 at HV3 HA3 HB3 HT3 HR3 HD3 ⊢
    obtain ⟨hd, hhd⟩ : ∃ v, vb + 1 = v := ⟨_, rfl⟩
    rw [hhd] at HD3
    try rw [hhd]
    have hdl : vb < hd := by omega
    have nv1 : ¬ vb = ra := by omega
    have nv2 : ¬ ra = vb := by omega
    have nv3 : ¬ vb = rb := by omega
    have nv4 : ¬ rb = vb := by omega
    have nh1 : ¬ hd = ra := by omega
    have nh2 : ¬ ra = hd := by omega
    have nh3 : ¬ hd = rb := by omega
    have nh4 : ¬ rb = hd := by omega
    have nh5 : ¬ hd = vb := by omega
    have nh6 : ¬ vb = hd := by omega
    clear hhd
    have HNV : vb ∉ [c, l, hd] := by simp; omega
    have HNA' : ra ∉ [c, l, hd] := by simp; omega
    have HNB' : rb ∉ [c, l, hd] := by have := HRB.out; simp; omega
    obtain ⟨R, hRn⟩ : ∃ R, nums s k 3 nr0 = R := ⟨_, rfl⟩
    have hv := readV_4 (s := s) (k := k) (by omega) hb0 ⟨hk1, hk6⟩ hb1
    have hn := readN_4 (s := s) (k := k) (by omega) hb0 ⟨hk1, hk6⟩ hb1
    rw [hRn] at hv hn
    have KN := Lib.hid (numbers_calls c l hd s k R x W w3 HR3.out HD3.out HX.out (by omega) (by omega) hRn hv hn)
    have HV := Lib.hid hv
    have HN := Lib.hid hn
    clear hv hn hRn HR3 HD3 hb0 hb1
    refine KN.out.mono ?_
    rintro e w4 ⟨q, hq, T4, ⟨kf, f, a, y, rfl, R4, P⟩ | ⟨hRf, hqa, rfl, R4, D4⟩⟩
    · have V4 := HV3.out.turned T4 HNV
      have A4 := HA3.out.turned T4 HNA'
      have B4 := HB3.out.turned T4 HNB'
      have HT4 := Lib.hid (HT3.out.over T4 (by have := HRA.out; intro z hz; simp at hz ⊢; omega))
      have HR4 := Lib.hid R4
      have HP := Lib.hid P
      have d0 : (kf == 0) = false := by rw [beq_eq_false_iff_ne]; exact P.1
      have d0' : (kf != 0) = true := by rw [bne_iff_ne]; exact P.1
      have HV5 := Lib.hid (V4.set kf f a)
      have HA4 := Lib.hid A4
      have HB4 := Lib.hid B4
      clear T4 R4 P A4 B4 KN HV3 HA3 HB3 HT3
      have V9 := V4
      have vq0 := V9.c0
      have vq1 := V9.c1
      have vq2 := V9.c2
      have vf0 := V9.free 0
      have vf1 := V9.free 1
      have vf2 := V9.free 2
      have vlt := V9.lt
      clear V9
      clear V4
      go_wp2_with fail
      have HA5 := Lib.hid (((HA4.out.oth (o := 0) (v := .int .i64 kf) nv2).oth (o := 1) (v := .int .i64 f) nv2).oth (o := 2) (v := .int .i64 a) nv2)
      have HB5 := Lib.hid (Fl.oth (Fl.oth (Fl.oth HB4.out (o := 0) (v := .int .i64 kf) nv4) (o := 1) (v := .int .i64 f) nv4) (o := 2) (v := .int .i64 a) nv4)
      have HT5 := Lib.hid (Tn.own1 (Tn.own1 (Tn.own1 HT4.out (k := vb) (i := 0) (v := .int .i64 kf) (by have := HRA.out; omega)) (k := vb) (i := 1) (v := .int .i64 f) (by have := HRA.out; omega)) (k := vb) (i := 2) (v := .int .i64 a) (by have := HRA.out; omega))
      have HR5 := Lib.hid (HR4.out.st3 (k := vb) (v0 := .int .i64 kf) (v1 := .int .i64 f) (v2 := .int .i64 a) (by omega) (by omega))
      clear vq0 vq1 vq2 vf0 vf1 vf2 HA4 HB4 HT4 HR4
      generalize ((w4.setCell ⟨vb, 0, none⟩ (.int .i64 kf)).setCell ⟨vb, 1, none⟩ (.int .i64 f)).setCell ⟨vb, 2, none⟩ (.int .i64 a) = w5 at HV5 HA5 HB5 HT5 HR5 ⊢
      have A9 := HA5.out
      have aq0 := A9.c0
      have aq1 := A9.c1
      have aq2 := A9.c2
      have aq3 := A9.c3
      have aq4 := A9.c4
      have af0 := A9.free 0
      have af1 := A9.free 1
      have af2 := A9.free 2
      have af3 := A9.free 3
      have af4 := A9.free 4
      have alt := A9.lt
      clear A9
      have B9 := HB5.out
      have bq0 := B9.c0
      have bq1 := B9.c1
      have bq2 := B9.c2
      have bf0 := B9.free 0
      have bf1 := B9.free 1
      have bf2 := B9.free 2
      have blt := B9.lt
      clear B9
      have V9 := HV5.out
      have vq0 := V9.c0
      have vq1 := V9.c1
      have vq2 := V9.c2
      have vf0 := V9.free 0
      have vf1 := V9.free 1
      have vf2 := V9.free 2
      have vlt := V9.lt
      clear V9
      go_region
      go_wp2
      refine bodyPost_ret (v := fdT kf f a) (by simp only [results, Tryz.results36, fdT]; go_simp) rfl ?_
      refine HP.out.2 _ ?_ ?_
      · have h1 := HRA.out
        have h2 := HRB.out
        repeat' first | with_reducible exact HT5.out | with_reducible refine Tn.own1 ?_ (by omega) | with_reducible refine Tn.dr ?_ | with_reducible refine Tn.al ?_
      · have h2 := HRB.out
        repeat' first | with_reducible exact HR5.out | with_reducible refine Rd.st ?_ (by omega) (by omega) | with_reducible refine Rd.grown ?_ (gb_drew _ _) | with_reducible refine Rd.grown ?_ (World.grownBy_alloc _ _ none)
    · have V4 := HV3.out.turned T4 HNV
      have A4 := HA3.out.turned T4 HNA'
      have B4 := HB3.out.turned T4 HNB'
      have T4 := HT3.out.over T4 (by have := HRA.out; intro z hz; simp at hz ⊢; omega)
      obtain ⟨Rf, Rp, Ra, Rw, Rh, Rm, Rn⟩ := R
      obtain rfl : Rf = 0 := hRf
      obtain rfl : q = Ra := hqa
      have R4 : Rd c l s q (stp x Rn) w4 := R4
      have D4 : Hc hd k Rw Rh Rm 0 w4 := D4
      have HV5 := Lib.hid (V4.set 0 0 0)
      have HA5 := Lib.hid (((A4.oth (o := 0) (v := .int .i64 0) nv2).oth (o := 1) (v := .int .i64 0) nv2).oth (o := 2) (v := .int .i64 0) nv2)
      have HB5 := Lib.hid (Fl.oth (Fl.oth (Fl.oth B4 (o := 0) (v := .int .i64 0) nv4) (o := 1) (v := .int .i64 0) nv4) (o := 2) (v := .int .i64 0) nv4)
      have HD5 := Lib.hid (((D4.oth (o := 0) (v := .int .i64 0) nh5).oth (o := 1) (v := .int .i64 0) nh5).oth (o := 2) (v := .int .i64 0) nh5)
      have HT5 := Lib.hid (Tn.own1 (Tn.own1 (Tn.own1 T4 (k := vb) (i := 0) (v := .int .i64 0) (by have := HRA.out; omega)) (k := vb) (i := 1) (v := .int .i64 0) (by have := HRA.out; omega)) (k := vb) (i := 2) (v := .int .i64 0) (by have := HRA.out; omega))
      have HR5 := Lib.hid (R4.st3 (k := vb) (v0 := .int .i64 0) (v1 := .int .i64 0) (v2 := .int .i64 0) (by omega) (by omega))
      have V9 := V4
      have vq0 := V9.c0
      have vq1 := V9.c1
      have vq2 := V9.c2
      have vf0 := V9.free 0
      have vf1 := V9.free 1
      have vf2 := V9.free 2
      have vlt := V9.lt
      clear V9
      clear V4 A4 B4 T4 R4 D4 KN HV3 HA3 HB3 HT3
      simp only [okF]
      have KT := fun u => text_calls k u
      by_cases h4 : 4 ≤ k
      · simp only [(rgB_not 1 3 (k : Int)).2 (by omega)] at KT
        have KT := Lib.hid KT
        go_wp2_with fail
        clear vq0 vq1 vq2 vf0 vf1 vf2
        generalize ((w4.setCell ⟨vb, 0, none⟩ (.int .i64 0)).setCell ⟨vb, 1, none⟩ (.int .i64 0)).setCell ⟨vb, 2, none⟩ (.int .i64 0) = w5 at HV5 HA5 HB5 HD5 HT5 HR5 ⊢
        refine (KT.out _).mono ?_
        rintro e w' ⟨rfl, rfl⟩
        have hst := HR5.out.ok.ts
        rw [stp_st, stp_s] at hst
        by_cases hk : x.s < x.st + (Rn : Nat) + 1
        · have P : FP W c l s x 4 3 q q (spent x) := by
            refine fp_spent hq ?_
            rw [HN.out]
            unfold endN
            rw [if_neg (fun h => h rfl), if_pos h4]
            show x.s < x.st + ((Rn + 1 : Nat) : Int)
            omega
          have K1 := Lib.hid (one_spent c l s q _ w5 HR5.out HX.out hk)
          have HP := Lib.hid P
          clear hk P HR5
          go_wp2_with fail
          refine K1.out.mono ?_
          rintro e w6 ⟨rfl, R4, t6⟩
          have R4 : Rd c l s q (spent x) w6 := R4
          have V4 := HV5.out.turned t6 (by simp; omega)
          have A4 := HA5.out.turned t6 (by simp; omega)
          have B4 := HB5.out.turned t6 HNB
          have D4 := HD5.out.turned t6 (by simp; omega)
          have T4 := HT5.out.trans t6
          clear HV5 HA5 HB5 HD5 HT5 t6 K1
          have HV5 := Lib.hid (V4.set 4 3 q)
          have HA5 := Lib.hid (((A4.oth (o := 0) (v := .int .i64 4) nv2).oth (o := 1) (v := .int .i64 3) nv2).oth (o := 2) (v := .int .i64 q) nv2)
          have HB5 := Lib.hid (Fl.oth (Fl.oth (Fl.oth B4 (o := 0) (v := .int .i64 4) nv4) (o := 1) (v := .int .i64 3) nv4) (o := 2) (v := .int .i64 q) nv4)
          have HD5 := Lib.hid (((D4.oth (o := 0) (v := .int .i64 4) nh5).oth (o := 1) (v := .int .i64 3) nh5).oth (o := 2) (v := .int .i64 q) nh5)
          have HT5 := Lib.hid (Tn.own1 (Tn.own1 (Tn.own1 T4 (k := vb) (i := 0) (v := .int .i64 4) (by have := HRA.out; omega)) (k := vb) (i := 1) (v := .int .i64 3) (by have := HRA.out; omega)) (k := vb) (i := 2) (v := .int .i64 q) (by have := HRA.out; omega))
          have HR5 := Lib.hid (R4.st3 (k := vb) (v0 := .int .i64 4) (v1 := .int .i64 3) (v2 := .int .i64 q) (by omega) (by omega))
          have V9 := V4
          have vq0 := V9.c0
          have vq1 := V9.c1
          have vq2 := V9.c2
          have vf0 := V9.free 0
          have vf1 := V9.free 1
          have vf2 := V9.free 2
          have vlt := V9.lt
          clear V9
          clear V4 A4 B4 T4 R4 D4
          simp only [noF]
          go_wp2_with fail
          clear vq0 vq1 vq2 vf0 vf1 vf2
          generalize ((w6.setCell ⟨vb, 0, none⟩ (.int .i64 4)).setCell ⟨vb, 1, none⟩ (.int .i64 3)).setCell ⟨vb, 2, none⟩ (.int .i64 q) = w7 at HV5 HA5 HB5 HD5 HT5 HR5 ⊢
          have A9 := HA5.out
          have aq0 := A9.c0
          have aq1 := A9.c1
          have aq2 := A9.c2
          have aq3 := A9.c3
          have aq4 := A9.c4
          have af0 := A9.free 0
          have af1 := A9.free 1
          have af2 := A9.free 2
          have af3 := A9.free 3
          have af4 := A9.free 4
          have alt := A9.lt
          clear A9
          have B9 := HB5.out
          have bq0 := B9.c0
          have bq1 := B9.c1
          have bq2 := B9.c2
          have bf0 := B9.free 0
          have bf1 := B9.free 1
          have bf2 := B9.free 2
          have blt := B9.lt
          clear B9
          have V9 := HV5.out
          have vq0 := V9.c0
          have vq1 := V9.c1
          have vq2 := V9.c2
          have vf0 := V9.free 0
          have vf1 := V9.free 1
          have vf2 := V9.free 2
          have vlt := V9.lt
          clear V9
          go_region
          go_wp2
          refine bodyPost_ret (v := fdT 4 3 q) (by simp only [results, Tryz.results36, fdT]; go_simp) rfl ?_
          refine HP.out.2 _ ?_ ?_
          · have h1 := HRA.out
            have h2 := HRB.out
            repeat' first | with_reducible exact HT5.out | with_reducible refine Tn.own1 ?_ (by omega) | with_reducible refine Tn.dr ?_ | with_reducible refine Tn.al ?_
          · have h2 := HRB.out
            repeat' first | with_reducible exact HR5.out | with_reducible refine Rd.st ?_ (by omega) (by omega) | with_reducible refine Rd.grown ?_ (gb_drew _ _) | with_reducible refine Rd.grown ?_ (World.grownBy_alloc _ _ none)
        · by_cases hqs : q < s.size
          · have K1 := one_yes c l s q _ w5 HR5.out HX.out (by rw [stp_st, stp_s]; omega) hqs
            rw [stp_stp] at K1
            cases eB : blankB (bt s q)
            · rw [eB, if_neg (by decide)] at K1
              have hvv : readV s = ⟨0, 0, 0, 0, 0, 2, q⟩ := HV.out.trans (endV_bad rfl h4 hqs eB)
              have hnn : readN s = Rn + 1 := by
                rw [HN.out]
                unfold endN
                rw [if_neg (fun h => h rfl), if_pos h4]
              have HP := Lib.hid (fp_fault (W := W) (c := c) (l := l) (x := x) (q := q + 1) (by omega) (by decide) hvv hnn)
              have K1 := Lib.hid K1
              clear eB hvv hnn hk HR5
              go_wp2_with fail
              refine K1.out.mono ?_
              rintro e w6 ⟨rfl, R4, t6⟩
              have V4 := HV5.out.turned t6 (by simp; omega)
              have A4 := HA5.out.turned t6 (by simp; omega)
              have B4 := HB5.out.turned t6 HNB
              have D4 := HD5.out.turned t6 (by simp; omega)
              have T4 := HT5.out.trans t6
              clear HV5 HA5 HB5 HD5 HT5 t6 K1
              have HV5 := Lib.hid (V4.set 2 3 q)
              have HA5 := Lib.hid (((A4.oth (o := 0) (v := .int .i64 2) nv2).oth (o := 1) (v := .int .i64 3) nv2).oth (o := 2) (v := .int .i64 q) nv2)
              have HB5 := Lib.hid (Fl.oth (Fl.oth (Fl.oth B4 (o := 0) (v := .int .i64 2) nv4) (o := 1) (v := .int .i64 3) nv4) (o := 2) (v := .int .i64 q) nv4)
              have HD5 := Lib.hid (((D4.oth (o := 0) (v := .int .i64 2) nh5).oth (o := 1) (v := .int .i64 3) nh5).oth (o := 2) (v := .int .i64 q) nh5)
              have HT5 := Lib.hid (Tn.own1 (Tn.own1 (Tn.own1 T4 (k := vb) (i := 0) (v := .int .i64 2) (by have := HRA.out; omega)) (k := vb) (i := 1) (v := .int .i64 3) (by have := HRA.out; omega)) (k := vb) (i := 2) (v := .int .i64 q) (by have := HRA.out; omega))
              have HR5 := Lib.hid (R4.st3 (k := vb) (v0 := .int .i64 2) (v1 := .int .i64 3) (v2 := .int .i64 q) (by omega) (by omega))
              have V9 := V4
              have vq0 := V9.c0
              have vq1 := V9.c1
              have vq2 := V9.c2
              have vf0 := V9.free 0
              have vf1 := V9.free 1
              have vf2 := V9.free 2
              have vlt := V9.lt
              clear V9
              clear V4 A4 B4 T4 R4 D4
              go_wp2_with fail
              clear vq0 vq1 vq2 vf0 vf1 vf2
              generalize ((w6.setCell ⟨vb, 0, none⟩ (.int .i64 2)).setCell ⟨vb, 1, none⟩ (.int .i64 3)).setCell ⟨vb, 2, none⟩ (.int .i64 q) = w7 at HV5 HA5 HB5 HD5 HT5 HR5 ⊢
              have A9 := HA5.out
              have aq0 := A9.c0
              have aq1 := A9.c1
              have aq2 := A9.c2
              have aq3 := A9.c3
              have aq4 := A9.c4
              have af0 := A9.free 0
              have af1 := A9.free 1
              have af2 := A9.free 2
              have af3 := A9.free 3
              have af4 := A9.free 4
              have alt := A9.lt
              clear A9
              have B9 := HB5.out
              have bq0 := B9.c0
              have bq1 := B9.c1
              have bq2 := B9.c2
              have bf0 := B9.free 0
              have bf1 := B9.free 1
              have bf2 := B9.free 2
              have blt := B9.lt
              clear B9
              have V9 := HV5.out
              have vq0 := V9.c0
              have vq1 := V9.c1
              have vq2 := V9.c2
              have vf0 := V9.free 0
              have vf1 := V9.free 1
              have vf2 := V9.free 2
              have vlt := V9.lt
              clear V9
              go_region
              go_wp2
              refine bodyPost_ret (v := fdT 2 3 q) (by simp only [results, Tryz.results36, fdT]; go_simp) rfl ?_
              refine HP.out.2 _ ?_ ?_
              · have h1 := HRA.out
                have h2 := HRB.out
                repeat' first | with_reducible exact HT5.out | with_reducible refine Tn.own1 ?_ (by omega) | with_reducible refine Tn.dr ?_ | with_reducible refine Tn.al ?_
              · have h2 := HRB.out
                repeat' first | with_reducible exact HR5.out | with_reducible refine Rd.st ?_ (by omega) (by omega) | with_reducible refine Rd.grown ?_ (gb_drew _ _) | with_reducible refine Rd.grown ?_ (World.grownBy_alloc _ _ none)
            · rw [eB, if_pos rfl] at K1
              have hvv : readV s = ⟨k, Rw, Rh, Rm, q + 1, 0, 0⟩ := HV.out.trans (endV_yes rfl h4 hqs eB)
              have hnn : readN s = Rn + 1 := by
                rw [HN.out]
                unfold endN
                rw [if_neg (fun h => h rfl), if_pos h4]
              have HVV := Lib.hid hvv
              have HNN := Lib.hid hnn
              have K1 := Lib.hid K1
              clear eB hvv hnn hk HR5
              go_wp2_with fail
              refine K1.out.mono ?_
              rintro e w6 ⟨rfl, R4, t6⟩
              have V4 := HV5.out.turned t6 (by simp; omega)
              have A4 := HA5.out.turned t6 (by simp; omega)
              have B4 := HB5.out.turned t6 HNB
              have D4 := HD5.out.turned t6 (by simp; omega)
              have T4 := HT5.out.trans t6
              clear HV5 HA5 HB5 HD5 HT5 t6 K1
              have HV5 := Lib.hid (V4.set 0 0 0)
              have HA5 := Lib.hid (((A4.oth (o := 0) (v := .int .i64 0) nv2).oth (o := 1) (v := .int .i64 0) nv2).oth (o := 2) (v := .int .i64 0) nv2)
              have HB5 := Lib.hid (Fl.oth (Fl.oth (Fl.oth B4 (o := 0) (v := .int .i64 0) nv4) (o := 1) (v := .int .i64 0) nv4) (o := 2) (v := .int .i64 0) nv4)
              have HD5 := Lib.hid (((D4.oth (o := 0) (v := .int .i64 0) nh5).oth (o := 1) (v := .int .i64 0) nh5).oth (o := 2) (v := .int .i64 0) nh5)
              have HT5 := Lib.hid (Tn.own1 (Tn.own1 (Tn.own1 T4 (k := vb) (i := 0) (v := .int .i64 0) (by have := HRA.out; omega)) (k := vb) (i := 1) (v := .int .i64 0) (by have := HRA.out; omega)) (k := vb) (i := 2) (v := .int .i64 0) (by have := HRA.out; omega))
              have HR5 := Lib.hid (R4.st3 (k := vb) (v0 := .int .i64 0) (v1 := .int .i64 0) (v2 := .int .i64 0) (by omega) (by omega))
              have V9 := V4
              have vq0 := V9.c0
              have vq1 := V9.c1
              have vq2 := V9.c2
              have vf0 := V9.free 0
              have vf1 := V9.free 1
              have vf2 := V9.free 2
              have vlt := V9.lt
              clear V9
              clear V4 A4 B4 T4 R4 D4
              simp only [okF]
              go_wp2_with fail
              clear vq0 vq1 vq2 vf0 vf1 vf2
              generalize ((w6.setCell ⟨vb, 0, none⟩ (.int .i64 0)).setCell ⟨vb, 1, none⟩ (.int .i64 0)).setCell ⟨vb, 2, none⟩ (.int .i64 0) = w7 at HV5 HA5 HB5 HD5 HT5 HR5 ⊢
              refine (at_rd c l s (q + 1) _ w7 HR5.out).mono ?_
              rintro e w' ⟨rfl, rfl⟩
              have A9 := HA5.out
              have aq0 := A9.c0
              have aq1 := A9.c1
              have aq2 := A9.c2
              have aq3 := A9.c3
              have aq4 := A9.c4
              have af0 := A9.free 0
              have af1 := A9.free 1
              have af2 := A9.free 2
              have af3 := A9.free 3
              have af4 := A9.free 4
              have alt := A9.lt
              clear A9
              have B9 := HB5.out
              have bq0 := B9.c0
              have bq1 := B9.c1
              have bq2 := B9.c2
              have bf0 := B9.free 0
              have bf1 := B9.free 1
              have bf2 := B9.free 2
              have blt := B9.lt
              clear B9
              have D9 := HD5.out
              have dq0 := D9.c0
              have dq1 := D9.c1
              have dq2 := D9.c2
              have dq3 := D9.c3
              have dq4 := D9.c4
              have df0 := D9.free 0
              have df1 := D9.free 1
              have df2 := D9.free 2
              have df3 := D9.free 3
              have df4 := D9.free 4
              have dlt := D9.lt
              clear D9
              have hqq : (((q + 1 : Nat)) : Int) = ((q + 1 : Nat) : Int) := rfl
              go_wp2
              refine bodyPost_ret (v := rdT ⟨k, Rw, Rh, Rm, q + 1, 0, 0⟩) (by simp only [results, Tryz.results36, rdT, show ((fmK 0 : Nat) : Int) = 0 from rfl]; go_simp) rfl ⟨q + 1, by omega, ?_, .inl ⟨by rw [HVV.out], by rw [HVV.out]; exact fun _ => rfl, ?_⟩⟩
              · have h1 := HRA.out
                have h2 := HRB.out
                repeat' first | with_reducible exact HT5.out | with_reducible refine Tn.own1 ?_ (by omega) | with_reducible refine Tn.dr ?_ | with_reducible refine Tn.al ?_
              · rw [HNN.out]
                have h2 := HRB.out
                repeat' first | with_reducible exact HR5.out | with_reducible refine Rd.st ?_ (by omega) (by omega) | with_reducible refine Rd.grown ?_ (gb_drew _ _) | with_reducible refine Rd.grown ?_ (World.grownBy_alloc _ _ none)
          · have hqe : s.size ≤ q := by omega
            have hvv : readV s = ⟨0, 0, 0, 0, 0, 1, s.size⟩ := HV.out.trans (endV_short rfl h4 hqe)
            have hnn : readN s = Rn + 1 := by
              rw [HN.out]
              unfold endN
              rw [if_neg (fun h => h rfl), if_pos h4]
            have HP := Lib.hid (fp_fault (W := W) (c := c) (l := l) (x := x) hq (by decide) hvv hnn)
            have K1 := one_end c l s q _ w5 HR5.out HX.out (by rw [stp_st, stp_s]; omega) hqe
            rw [stp_stp] at K1
            have K1 := Lib.hid K1
            clear hvv hnn hk HR5
            go_wp2_with fail
            refine K1.out.mono ?_
            rintro e w6 ⟨rfl, R4, t6⟩
            have V4 := HV5.out.turned t6 (by simp; omega)
            have A4 := HA5.out.turned t6 (by simp; omega)
            have B4 := HB5.out.turned t6 HNB
            have D4 := HD5.out.turned t6 (by simp; omega)
            have T4 := HT5.out.trans t6
            clear HV5 HA5 HB5 HD5 HT5 t6 K1
            have HV5 := Lib.hid (V4.set 1 3 s.size)
            have HA5 := Lib.hid (((A4.oth (o := 0) (v := .int .i64 1) nv2).oth (o := 1) (v := .int .i64 3) nv2).oth (o := 2) (v := .int .i64 s.size) nv2)
            have HB5 := Lib.hid (Fl.oth (Fl.oth (Fl.oth B4 (o := 0) (v := .int .i64 1) nv4) (o := 1) (v := .int .i64 3) nv4) (o := 2) (v := .int .i64 s.size) nv4)
            have HD5 := Lib.hid (((D4.oth (o := 0) (v := .int .i64 1) nh5).oth (o := 1) (v := .int .i64 3) nh5).oth (o := 2) (v := .int .i64 s.size) nh5)
            have HT5 := Lib.hid (Tn.own1 (Tn.own1 (Tn.own1 T4 (k := vb) (i := 0) (v := .int .i64 1) (by have := HRA.out; omega)) (k := vb) (i := 1) (v := .int .i64 3) (by have := HRA.out; omega)) (k := vb) (i := 2) (v := .int .i64 s.size) (by have := HRA.out; omega))
            have HR5 := Lib.hid (R4.st3 (k := vb) (v0 := .int .i64 1) (v1 := .int .i64 3) (v2 := .int .i64 s.size) (by omega) (by omega))
            have V9 := V4
            have vq0 := V9.c0
            have vq1 := V9.c1
            have vq2 := V9.c2
            have vf0 := V9.free 0
            have vf1 := V9.free 1
            have vf2 := V9.free 2
            have vlt := V9.lt
            clear V9
            clear V4 A4 B4 T4 R4 D4
            go_wp2_with fail
            clear vq0 vq1 vq2 vf0 vf1 vf2
            generalize ((w6.setCell ⟨vb, 0, none⟩ (.int .i64 1)).setCell ⟨vb, 1, none⟩ (.int .i64 3)).setCell ⟨vb, 2, none⟩ (.int .i64 s.size) = w7 at HV5 HA5 HB5 HD5 HT5 HR5 ⊢
            have A9 := HA5.out
            have aq0 := A9.c0
            have aq1 := A9.c1
            have aq2 := A9.c2
            have aq3 := A9.c3
            have aq4 := A9.c4
            have af0 := A9.free 0
            have af1 := A9.free 1
            have af2 := A9.free 2
            have af3 := A9.free 3
            have af4 := A9.free 4
            have alt := A9.lt
            clear A9
            have B9 := HB5.out
            have bq0 := B9.c0
            have bq1 := B9.c1
            have bq2 := B9.c2
            have bf0 := B9.free 0
            have bf1 := B9.free 1
            have bf2 := B9.free 2
            have blt := B9.lt
            clear B9
            have V9 := HV5.out
            have vq0 := V9.c0
            have vq1 := V9.c1
            have vq2 := V9.c2
            have vf0 := V9.free 0
            have vf1 := V9.free 1
            have vf2 := V9.free 2
            have vlt := V9.lt
            clear V9
            go_region
            go_wp2
            refine bodyPost_ret (v := fdT 1 3 s.size) (by simp only [results, Tryz.results36, fdT]; go_simp) rfl ?_
            refine HP.out.2 _ ?_ ?_
            · have h1 := HRA.out
              have h2 := HRB.out
              repeat' first | with_reducible exact HT5.out | with_reducible refine Tn.own1 ?_ (by omega) | with_reducible refine Tn.dr ?_ | with_reducible refine Tn.al ?_
            · have h2 := HRB.out
              repeat' first | with_reducible exact HR5.out | with_reducible refine Rd.st ?_ (by omega) (by omega) | with_reducible refine Rd.grown ?_ (gb_drew _ _) | with_reducible refine Rd.grown ?_ (World.grownBy_alloc _ _ none)
      · simp only [(rgB_iff 1 3 (k : Int)).2 (by omega)] at KT
        have KT := Lib.hid KT
        have hvv : readV s = ⟨k, Rw, Rh, Rm, q, 0, 0⟩ := HV.out.trans (endV_text rfl h4)
        have hnn : readN s = Rn := by
          rw [HN.out]
          unfold endN
          rw [if_neg (fun h => h rfl), if_neg h4]
        have HVV := Lib.hid hvv
        have HNN := Lib.hid hnn
        clear hvv hnn
        go_wp2_with fail
        clear vq0 vq1 vq2 vf0 vf1 vf2
        generalize ((w4.setCell ⟨vb, 0, none⟩ (.int .i64 0)).setCell ⟨vb, 1, none⟩ (.int .i64 0)).setCell ⟨vb, 2, none⟩ (.int .i64 0) = w5 at HV5 HA5 HB5 HD5 HT5 HR5 ⊢
        refine (KT.out _).mono ?_
        rintro e w' ⟨rfl, rfl⟩
        go_wp2_with fail
        refine (at_rd c l s (q) _ w5 HR5.out).mono ?_
        rintro e w' ⟨rfl, rfl⟩
        have A9 := HA5.out
        have aq0 := A9.c0
        have aq1 := A9.c1
        have aq2 := A9.c2
        have aq3 := A9.c3
        have aq4 := A9.c4
        have af0 := A9.free 0
        have af1 := A9.free 1
        have af2 := A9.free 2
        have af3 := A9.free 3
        have af4 := A9.free 4
        have alt := A9.lt
        clear A9
        have B9 := HB5.out
        have bq0 := B9.c0
        have bq1 := B9.c1
        have bq2 := B9.c2
        have bf0 := B9.free 0
        have bf1 := B9.free 1
        have bf2 := B9.free 2
        have blt := B9.lt
        clear B9
        have D9 := HD5.out
        have dq0 := D9.c0
        have dq1 := D9.c1
        have dq2 := D9.c2
        have dq3 := D9.c3
        have dq4 := D9.c4
        have df0 := D9.free 0
        have df1 := D9.free 1
        have df2 := D9.free 2
        have df3 := D9.free 3
        have df4 := D9.free 4
        have dlt := D9.lt
        clear D9
        have hqq : (((q : Nat)) : Int) = ((q : Nat) : Int) := rfl
        go_wp2
        refine bodyPost_ret (v := rdT ⟨k, Rw, Rh, Rm, q, 0, 0⟩) (by simp only [results, Tryz.results36, rdT, show ((fmK 0 : Nat) : Int) = 0 from rfl]; go_simp) rfl ⟨q, by omega, ?_, .inl ⟨by rw [HVV.out], by rw [HVV.out]; exact fun _ => rfl, ?_⟩⟩
        · have h1 := HRA.out
          have h2 := HRB.out
          repeat' first | with_reducible exact HT5.out | with_reducible refine Tn.own1 ?_ (by omega) | with_reducible refine Tn.dr ?_ | with_reducible refine Tn.al ?_
        · rw [HNN.out]
          have h2 := HRB.out
          repeat' first | with_reducible exact HR5.out | with_reducible refine Rd.st ?_ (by omega) (by omega) | with_reducible refine Rd.grown ?_ (gb_drew _ _) | with_reducible refine Rd.grown ?_ (World.grownBy_alloc _ _ none)

end Go.Proofs.YtcfdippcobkbaaaGreat.Ph

/- What holds of a head that is told; the bounds of a whole reading. -/
namespace Go.Proofs.YtcfdippcobkbaaaGreat.Ph
open Go.ChangeShapes Go.WideShapes Go.ChangeAt Go.RowKit
open Go.Proofs.YtcfdippcobkbaaaGreat.Le Go.Proofs.YtcfdippcobkbaaaGreat.Sr Go.Proofs.YtcfdippcobkbaaaGreat.Tk
set_option linter.unusedVariables false

theorem nums_rng (s : ByteArray) (k : Nat) : ∀ r z, r ≤ 3 → z.f = 0 → z.a ≤ s.size → (r < 3 → 1 ≤ z.w ∧ z.w ≤ 16384) → (r < 2 → 1 ≤ z.h ∧ z.h ≤ 16384) → 1 ≤ z.m → z.m ≤ 65535 → (nums s k r z).f = 0 →
    (1 ≤ (nums s k r z).w ∧ (nums s k r z).w ≤ 16384) ∧ (1 ≤ (nums s k r z).h ∧ (nums s k r z).h ≤ 16384) ∧ (1 ≤ (nums s k r z).m ∧ (nums s k r z).m ≤ 65535)
  | 0, z, _, _, _, hw, hh, m1, m2, _ => ⟨hw (by decide), hh (by decide), m1, m2⟩
  | r + 1, z, hr, hf, ha, hw, hh, m1, m2, h0 => by
    by_cases hb : r = 0 ∧ (k = 1 ∨ k = 4)
    · obtain ⟨rfl, hk⟩ := hb
      rw [nums_bit hk] at h0 ⊢
      exact ⟨hw (by decide), hh (by decide), m1, m2⟩
    · rcases gotV_gd s z.a ha with ⟨kd, pl, eg, hk0, h3, hp, hN⟩ | ⟨v, f, j, eg, h1, h2, h3, h4, hN⟩
      · rw [nums_fault hb eg hk0] at h0
        exact absurd h0 hk0
      · by_cases hv : v = 0 ∨ (r = 0 ∧ 65535 < v)
        · rw [nums_bad hb eg hv] at h0
          exact absurd (a := (2 : Nat) = 0) h0 (by decide)
        · by_cases hg : 0 < r ∧ 16384 < v
          · rw [nums_big hb eg hv hg] at h0
            exact absurd (a := (3 : Nat) = 0) h0 (by decide)
          · rw [nums_on hb eg hv hg] at h0 ⊢
            refine nums_rng s k r _ (by omega) rfl h3 (fun h => ?_) (fun h => ?_) ?_ ?_ h0
            · show 1 ≤ (if r = 2 then v else z.w) ∧ (if r = 2 then v else z.w) ≤ 16384
              split
              · omega
              · exact hw (by omega)
            · show 1 ≤ (if r = 1 then v else z.h) ∧ (if r = 1 then v else z.h) ≤ 16384
              split
              · omega
              · exact hh (by omega)
            · show 1 ≤ (if r = 0 then v else z.m)
              split <;> omega
            · show (if r = 0 then v else z.m) ≤ 65535
              split <;> omega

/-- A head that is told. -/
structure HG (s : ByteArray) (k w h m a : Nat) : Prop where
  k1 : 1 ≤ k
  k6 : k ≤ 6
  w1 : 1 ≤ w
  w2 : w ≤ 16384
  h1 : 1 ≤ h
  h2 : h ≤ 16384
  m1 : 1 ≤ m
  m2 : m ≤ 65535
  le : a ≤ s.size
theorem readV_gd (s : ByteArray) : (∃ k w h m a, readV s = ⟨k, w, h, m, a, 0, 0⟩ ∧ HG s k w h m a) ∨ (∃ f p, readV s = ⟨0, 0, 0, 0, 0, f, p⟩ ∧ f ≠ 0 ∧ f < 4 ∧ p ≤ s.size) := by
  by_cases h : s.size < 2
  · by_cases h0 : s.size < 1
    · exact .inr ⟨1, 0, readV_0 h0, by decide, by decide, by omega⟩
    · by_cases h1 : bt s 0 = 80
      · exact .inr ⟨1, 1, readV_2 h0 h1 h, by decide, by decide, by omega⟩
      · exact .inr ⟨2, 0, readV_1 h0 h1, by decide, by decide, by omega⟩
  · by_cases h1 : bt s 0 = 80
    · by_cases h2 : 49 ≤ bt s 1 ∧ bt s 1 ≤ 54
      · obtain ⟨k, hk⟩ : ∃ k, bt s 1 = k + 48 := ⟨bt s 1 - 48, by omega⟩
        have e := readV_4 (k := k) h h1 (by omega) hk
        have hr := nums_rng s k 3 nr0 (by decide) rfl (by show 2 ≤ _; omega) (fun h => absurd h (by decide)) (fun h => absurd h (by decide)) (by decide) (by decide)
        have hg := nums_gd s k 3 nr0 rfl (by show 2 ≤ _; omega)
        rw [e]
        obtain ⟨R, hR⟩ : ∃ R, nums s k 3 nr0 = R := ⟨_, rfl⟩
        rw [hR] at hr hg ⊢
        by_cases hf : R.f = 0
        · obtain ⟨⟨w1, w2⟩, ⟨hh1, hh2⟩, m1, m2⟩ := hr hf
          obtain ⟨a1, a2, a3⟩ := hg.2.2.1 hf
          by_cases h4 : 4 ≤ k
          · unfold endV
            rw [if_neg (fun h' => h' hf), if_pos h4]
            by_cases h5 : s.size ≤ R.a
            · rw [if_pos h5]
              exact .inr ⟨1, s.size, rfl, by decide, by decide, Nat.le_refl _⟩
            · rw [if_neg h5]
              by_cases h6 : blankB (bt s R.a) = true
              · rw [if_pos h6]
                exact .inl ⟨k, R.w, R.h, R.m, R.a + 1, rfl, ⟨by omega, by omega, w1, w2, hh1, hh2, m1, m2, by omega⟩⟩
              · rw [if_neg h6]
                exact .inr ⟨2, R.a, rfl, by decide, by decide, a2⟩
          · rw [endV_text hf h4]
            exact .inl ⟨k, R.w, R.h, R.m, R.a, rfl, ⟨by omega, by omega, w1, w2, hh1, hh2, m1, m2, a2⟩⟩
        · rw [endV_fault hf]
          exact .inr ⟨R.f, R.p, rfl, hf, (hg.2.2.2 hf).1, (hg.2.2.2 hf).2⟩
      · exact .inr ⟨2, 1, readV_3 h h1 h2, by decide, by decide, by omega⟩
    · exact .inr ⟨2, 0, readV_1 (by omega) h1, by decide, by decide, by omega⟩

end Go.Proofs.YtcfdippcobkbaaaGreat.Ph

/- Layer 12: the document's Read, walked (written by wip/gen/pnh3.py). -/
namespace Go.Proofs.YtcfdippcobkbaaaGreat.Ph
open Go.ChangeShapes Go.WideShapes Go.ChangeAt Go.RowKit
open Go.Proofs.YtcfdippcobkbaaaGreat.Le Go.Proofs.YtcfdippcobkbaaaGreat.Tk
set_option linter.unusedVariables false

/-- Block b is a head of the document's. -/
def Hb (b : Nat) (k w h m a f p : Int) (W : World) : Prop := W.heap[b]? = some (.cells #[.int .i64 k, .int .i64 w, .int .i64 h, .int .i64 m, .int .i64 a, .int .i64 f, .int .i64 p] 24 (0, 0))
section
variable {b : Nat} {k w h m a f p : Int} {W W' : World}
theorem Hb.c0 (H : Hb b k w h m a f p W) : W.cell? ⟨b, 0, none⟩ = some (.int .i64 k) := blk_cell H 0
theorem Hb.c1 (H : Hb b k w h m a f p W) : W.cell? ⟨b, 1, none⟩ = some (.int .i64 w) := blk_cell H 1
theorem Hb.c2 (H : Hb b k w h m a f p W) : W.cell? ⟨b, 2, none⟩ = some (.int .i64 h) := blk_cell H 2
theorem Hb.c3 (H : Hb b k w h m a f p W) : W.cell? ⟨b, 3, none⟩ = some (.int .i64 m) := blk_cell H 3
theorem Hb.c4 (H : Hb b k w h m a f p W) : W.cell? ⟨b, 4, none⟩ = some (.int .i64 a) := blk_cell H 4
theorem Hb.c5 (H : Hb b k w h m a f p W) : W.cell? ⟨b, 5, none⟩ = some (.int .i64 f) := blk_cell H 5
theorem Hb.c6 (H : Hb b k w h m a f p W) : W.cell? ⟨b, 6, none⟩ = some (.int .i64 p) := blk_cell H 6
theorem Hb.free (H : Hb b k w h m a f p W) (o : Nat) : W.frozen? ⟨b, o, none⟩ = false := blk_free H o
theorem Hb.lt (H : Hb b k w h m a f p W) : b < W.heap.size := blk_lt H
theorem Hb.grown {r : Option Nat} (H : Hb b k w h m a f p W) (g : W.grownBy W' r) (h1 : some b ≠ r) : Hb b k w h m a f p W' := (g.block b H.lt h1).trans H
theorem Hb.set1 (H : Hb b k w h m a f p W) (x : Int) : Hb b k x h m a f p (W.setCell ⟨b, 1, none⟩ (.int .i64 x)) := blk_set H 1 (.int .i64 x)
theorem Hb.set2 (H : Hb b k w h m a f p W) (x : Int) : Hb b k w x m a f p (W.setCell ⟨b, 2, none⟩ (.int .i64 x)) := blk_set H 2 (.int .i64 x)
theorem Hb.set3 (H : Hb b k w h m a f p W) (x : Int) : Hb b k w h x a f p (W.setCell ⟨b, 3, none⟩ (.int .i64 x)) := blk_set H 3 (.int .i64 x)
theorem Hb.oth {c o : Nat} {v : Value} (H : Hb b k w h m a f p W) (h1 : b ≠ c) : Hb b k w h m a f p (W.setCell ⟨c, o, none⟩ v) := blk_other H h1
theorem Hb.al (H : Hb b k w h m a f p W) (o : Obj) : Hb b k w h m a f p (W.alloc o) := blk_al H o
end
theorem gb_own1 {a b : World} {k o : Nat} {v : Value} (g : a.grownBy b none) (hk : a.heap.size ≤ k) : a.grownBy (b.setCell ⟨k, o, none⟩ v) none := gb_own g hk (gb_set _ _ _ _)
theorem gb_own7 {a b : World} {k : Nat} {v0 v1 v2 v3 v4 v5 v6 : Value} (g : a.grownBy b none) (hk : a.heap.size = k) :
    a.grownBy (((((((b.setCell ⟨k, 0, none⟩ v0).setCell ⟨k, 1, none⟩ v1).setCell ⟨k, 2, none⟩ v2).setCell ⟨k, 3, none⟩ v3).setCell ⟨k, 4, none⟩ v4).setCell ⟨k, 5, none⟩ v5).setCell ⟨k, 6, none⟩ v6) none :=
  have h : a.heap.size ≤ k := Nat.le_of_eq hk
  gb_own1 (gb_own1 (gb_own1 (gb_own1 (gb_own1 (gb_own1 (gb_own1 g h) h) h) h) h) h) h
def hdA (z : Hd) : Value := .agg #[.int .i64 z.k, .int .i64 z.w, .int .i64 z.h, .int .i64 z.m, .int .i64 z.a, .int .i64 z.f, .int .i64 z.p]

set_option maxRecDepth 100000 in
set_option maxHeartbeats 8000000 in
theorem rread_calls (s : ByteArray) (W : World) (hs : s.size ≤ 9223372036854775806) :
    Calls Tryz.prog 9 #[.string s] W fun e w' => e = .returned (hdA (readV s)) ∧ W.grownBy w' none := by
  obtain ⟨V, hV⟩ : ∃ V, readV s = V := ⟨_, rfl⟩
  rw [hV]
  have HV := Lib.hid hV.symm
  clear hV
  obtain ⟨r, hrw⟩ : ∃ r, W.heap.size = r := ⟨_, rfl⟩
  have HRW := Lib.hid hrw
  have HF0 : Hb r 0 0 0 0 0 0 0 (W.alloc (.cells #[.int .i64 0, .int .i64 0, .int .i64 0, .int .i64 0, .int .i64 0, .int .i64 0, .int .i64 0] 24)) := by
    rw [← hrw]
    exact blk_at
  have HG0 := Lib.hid (World.grownBy_alloc W (.cells #[.int .i64 0, .int .i64 0, .int .i64 0, .int .i64 0, .int .i64 0, .int .i64 0, .int .i64 0] 24) none)
  have hz0 := size_alloc W (.cells #[.int .i64 0, .int .i64 0, .int .i64 0, .int .i64 0, .int .i64 0, .int .i64 0, .int .i64 0] 24)
  rw [hrw] at hz0
  have HZ0 := Lib.hid hz0
  have HF0 := Lib.hid HF0
  clear hz0
  by_cases h0 : s.size < 1
  · have d0 : decide ((s.size : Int) < 1) = true := decide_eq_true (by omega)
    have hv := HV.out.trans (readV_0 h0)
    subst hv
    clear HV h0
    go_enter Tryz.func9, Tryz.ntmps9
    go_wp2_with fail
    generalize W.alloc (.cells #[.int .i64 0, .int .i64 0, .int .i64 0, .int .i64 0, .int .i64 0, .int .i64 0, .int .i64 0] 24) = w0 at HF0 HG0 HZ0 ⊢
    refine (rbad_calls 1 0 _).mono ?_
    rintro e w9 ⟨rfl, g9⟩
    have F9 := HF0.out.grown g9 (by simp)
    have rq0 := F9.c0
    have rq1 := F9.c1
    have rq2 := F9.c2
    have rq3 := F9.c3
    have rq4 := F9.c4
    have rq5 := F9.c5
    have rq6 := F9.c6
    have rf0 := F9.free 0
    have rf1 := F9.free 1
    have rf2 := F9.free 2
    have rf3 := F9.free 3
    have rf4 := F9.free 4
    have rf5 := F9.free 5
    have rf6 := F9.free 6
    have G9 := Lib.hid (gb_trans HG0.out g9)
    clear F9 g9
    go_wp2
    refine bodyPost_ret (v := hdA ⟨0, 0, 0, 0, 0, 1, 0⟩) (by simp only [results, Tryz.results9, hdA]; go_simp) rfl ⟨rfl, gb_own7 G9.out HRW.out⟩
  · have d0 : decide ((s.size : Int) < 1) = false := decide_eq_false (by omega)
    have hs0 : 0 < s.size := by omega
    obtain ⟨x, hx⟩ : ∃ x, bt s 0 = x := ⟨_, rfl⟩
    have hcx := bt_cell s 0 hs0 hx
    by_cases h1 : x = 80
    · have e1 : ((x : Int) == 80) = true := by rw [beq_iff_eq]; omega
      have e1' : ((x : Int) != 80) = false := by rw [bne_eq_false_iff_eq]; omega
      by_cases h2 : s.size < 2
      · have d1 : decide ((s.size : Int) < 2) = true := decide_eq_true (by omega)
        have hv := HV.out.trans (readV_2 h0 (hx.trans h1) h2)
        subst hv
        clear HV h0 h1 h2 hx
        go_enter Tryz.func9, Tryz.ntmps9
        go_wp2_with fail
        generalize W.alloc (.cells #[.int .i64 0, .int .i64 0, .int .i64 0, .int .i64 0, .int .i64 0, .int .i64 0, .int .i64 0] 24) = w0 at HF0 HG0 HZ0 ⊢
        refine (rbad_calls 1 1 _).mono ?_
        rintro e w9 ⟨rfl, g9⟩
        have F9 := HF0.out.grown g9 (by simp)
        have rq0 := F9.c0
        have rq1 := F9.c1
        have rq2 := F9.c2
        have rq3 := F9.c3
        have rq4 := F9.c4
        have rq5 := F9.c5
        have rq6 := F9.c6
        have rf0 := F9.free 0
        have rf1 := F9.free 1
        have rf2 := F9.free 2
        have rf3 := F9.free 3
        have rf4 := F9.free 4
        have rf5 := F9.free 5
        have rf6 := F9.free 6
        have G9 := Lib.hid (gb_trans HG0.out g9)
        clear F9 g9
        go_wp2
        refine bodyPost_ret (v := hdA ⟨0, 0, 0, 0, 0, 1, 1⟩) (by simp only [results, Tryz.results9, hdA]; go_simp) rfl ⟨rfl, gb_own7 G9.out HRW.out⟩
      · have d1 : decide ((s.size : Int) < 2) = false := decide_eq_false (by omega)
        have hs1 : 1 < s.size := by omega
        obtain ⟨y, hy⟩ : ∃ y, bt s 1 = y := ⟨_, rfl⟩
        have hcy := bt_cell s 1 hs1 hy
        have y256 : y < 256 := by rw [← hy]; exact bt_lt s 1
        by_cases h3 : 49 ≤ y ∧ y ≤ 54
        · obtain ⟨k, hk⟩ : ∃ k, y = k + 48 := ⟨y - 48, by omega⟩
          have hk6 : 1 ≤ k ∧ k ≤ 6 := by omega
          have hv := HV.out.trans (readV_4 (k := k) (by omega) (hx.trans h1) hk6 (hy.trans hk))
          have hyk : (y : Int) - 48 = k := by omega
          obtain ⟨hk1, hk7⟩ := hk6
          obtain ⟨R, hR⟩ : ∃ R, nums s k 3 nr0 = R := ⟨_, rfl⟩
          rw [hR] at hv
          have HRR := Lib.hid hR
          have HVV := Lib.hid hv
          clear HV h0 h1 h2 h3 hx hy hk hR hv
          have d3 : decide ((k : Int) < 1) = false := decide_eq_false (by omega)
          have d4 : decide ((6 : Int) < (k : Int)) = false := decide_eq_false (by omega)
          go_enter Tryz.func9, Tryz.ntmps9
          go_wp2_with fail
          generalize W.alloc (.cells #[.int .i64 0, .int .i64 0, .int .i64 0, .int .i64 0, .int .i64 0, .int .i64 0, .int .i64 0] 24) = w0 at HF0 HG0 HZ0 ⊢
          have hD : Hb (r + 1) k 0 0 1 0 0 0 (w0.alloc (.cells #[.int .i64 k, .int .i64 0, .int .i64 0, .int .i64 1, .int .i64 0, .int .i64 0, .int .i64 0] 24)) := by
            have := blk_at (w := w0) (o := .cells #[.int .i64 k, .int .i64 0, .int .i64 0, .int .i64 1, .int .i64 0, .int .i64 0, .int .i64 0] 24)
            rw [HZ0.out] at this
            exact this
          have HD := Lib.hid hD
          have HF1 := Lib.hid (HF0.out.al (.cells #[.int .i64 k, .int .i64 0, .int .i64 0, .int .i64 1, .int .i64 0, .int .i64 0, .int .i64 0] 24))
          have HG1 := Lib.hid (gb_trans HG0.out (World.grownBy_alloc w0 (.cells #[.int .i64 k, .int .i64 0, .int .i64 0, .int .i64 1, .int .i64 0, .int .i64 0, .int .i64 0] 24) none))
          clear hD HF0 HG0 HZ0 hrw d0 d1 hcx hcy e1 e1' d3 d4
          generalize w0.alloc (.cells #[.int .i64 k, .int .i64 0, .int .i64 0, .int .i64 1, .int .i64 0, .int .i64 0, .int .i64 0] 24) = w1 at HD HF1 HG1 ⊢
          obtain ⟨hd, hhd⟩ : ∃ hd, r + 1 = hd := ⟨_, rfl⟩
          rw [hhd] at HD ⊢
          have hne : ¬ hd = r := by omega
          have hne' : ¬ r = hd := by omega
          have HHD := Lib.hid hhd
          clear hhd
          go_loopg [5, 6] 3 (fun q av iv wr => ∃ i a w h m n : Nat, i ≤ 3 ∧ a ≤ s.size ∧ q = 3 - i ∧ av = .int .i64 a ∧ iv = .int .i64 i ∧ nums s k (3 - i) ⟨0, 0, a, w, h, m, n⟩ = R ∧ Hb hd k w h m 0 0 0 wr ∧ Hb r 0 0 0 0 0 0 0 wr ∧ W.grownBy wr none)
          case atStart => exact ⟨0, 2, 0, 0, 1, 2, by decide, by omega, rfl, rfl, rfl, HRR.out, HD.out, HF1.out, HG1.out⟩
          case round =>
            obtain ⟨i, a, w, h, m, n, hi, ha, rfl, rfl, rfl, J, D, F, G⟩ := hrel
            have HJ := Lib.hid J
            have HD2 := Lib.hid D
            have HF2 := Lib.hid F
            have HG2 := Lib.hid G
            clear J D F G HD HF1 HG1 HRR
            obtain rfl | rfl | rfl | rfl : i = 0 ∨ i = 1 ∨ i = 2 ∨ i = 3 := by omega
            · have KR := fun u => rnumber_calls s a u hs ha
              rcases gotV_gd s a ha with ⟨kd, pl, eg, hk0, hk3, hpl, _⟩ | ⟨v, f, j, eg, hkf, hfj, hjs, hv, hNj⟩
              · simp only [eg] at KR
                have KR := Lib.hid KR
                have hR := HJ.out.symm.trans (nums_fault (r := 2) (fun h => absurd h.1 (by decide)) eg hk0)
                have hv2 : V = ⟨0, 0, 0, 0, 0, kd, pl⟩ := by
                  rw [HVV.out, hR]
                  exact endV_fault hk0
                have d5 : ((kd : Int) == 0) = false := by rw [beq_eq_false_iff_ne]; omega
                have d5' : ((kd : Int) != 0) = true := by rw [bne_iff_ne]; omega
                subst hv2
                clear eg hR HJ HVV
                go_wp2_with fail
                refine (KR.out _).mono ?_
                rintro e w3 ⟨rfl, g3⟩
                have HF3 := Lib.hid ((HF2.out.grown g3 (by simp)).al (.cells #[.int .i64 0, .int .i64 0, .int .i64 0, .int .i64 kd, .int .i64 pl] 55))
                have HG3 := Lib.hid (gb_trans (gb_trans HG2.out g3) (World.grownBy_alloc w3 (.cells #[.int .i64 0, .int .i64 0, .int .i64 0, .int .i64 kd, .int .i64 pl] 55) none))
                clear g3 KR HF2 HG2 HD2
                simp only [gotA]
                go_wp2_with fail
                refine (rbad_calls kd pl _).mono ?_
                rintro e w9 ⟨rfl, g9⟩
                have F9 := HF3.out.grown g9 (by simp)
                have rq0 := F9.c0
                have rq1 := F9.c1
                have rq2 := F9.c2
                have rq3 := F9.c3
                have rq4 := F9.c4
                have rq5 := F9.c5
                have rq6 := F9.c6
                have rf0 := F9.free 0
                have rf1 := F9.free 1
                have rf2 := F9.free 2
                have rf3 := F9.free 3
                have rf4 := F9.free 4
                have rf5 := F9.free 5
                have rf6 := F9.free 6
                have G9 := Lib.hid (gb_trans HG3.out g9)
                clear F9 g9
                go_wp2
                refine bodyPost_ret (v := hdA ⟨0, 0, 0, 0, 0, kd, pl⟩) (by simp only [results, Tryz.results9, hdA]; go_simp) rfl ⟨rfl, gb_own7 G9.out HRW.out⟩
              · simp only [eg] at KR
                have KR := Lib.hid KR
                have hG3 := fun (u : World) (g : wr.grownBy u none) => gb_trans (gb_trans HG2.out g) (World.grownBy_alloc u (.cells #[.int .i64 v, .int .i64 f, .int .i64 j, .int .i64 0, .int .i64 0] 55) none)
                have hF3 := fun (u : World) (g : wr.grownBy u none) => (HF2.out.grown g (by simp)).al (.cells #[.int .i64 v, .int .i64 f, .int .i64 j, .int .i64 0, .int .i64 0] 55)
                have HG3 := Lib.hid hG3
                have HF3 := Lib.hid hF3
                clear hG3 hF3
                rcases (show v = 0 ∨ 16384 < v ∨ (v ≠ 0 ∧ v ≤ 16384) from by omega) with h0 | h0 | ⟨h0, h1⟩
                · have hR := HJ.out.symm.trans (nums_bad (r := 2) (fun h => absurd h.1 (by decide)) eg (.inl h0))
                  have hv2 : V = ⟨0, 0, 0, 0, 0, 2, f⟩ := by
                    rw [HVV.out, hR]
                    exact endV_fault (by show ¬ 2 = 0; decide)
                  have d6 : ((v : Int) == 0) = true := by rw [beq_iff_eq]; omega
                  clear h0
                  subst hv2
                  clear eg hR HJ HVV
                  go_wp2_with fail
                  refine (KR.out _).mono ?_
                  rintro e w3 ⟨rfl, g3⟩
                  have HF4 := Lib.hid (HF3.out _ g3)
                  have HG4 := Lib.hid (HG3.out _ g3)
                  clear g3 KR HF3 HG3 HF2 HG2 HD2
                  simp only [gotA]
                  go_wp2_with fail
                  refine (rbad_calls 2 f _).mono ?_
                  rintro e w9 ⟨rfl, g9⟩
                  have F9 := HF4.out.grown g9 (by simp)
                  have rq0 := F9.c0
                  have rq1 := F9.c1
                  have rq2 := F9.c2
                  have rq3 := F9.c3
                  have rq4 := F9.c4
                  have rq5 := F9.c5
                  have rq6 := F9.c6
                  have rf0 := F9.free 0
                  have rf1 := F9.free 1
                  have rf2 := F9.free 2
                  have rf3 := F9.free 3
                  have rf4 := F9.free 4
                  have rf5 := F9.free 5
                  have rf6 := F9.free 6
                  have G9 := Lib.hid (gb_trans HG4.out g9)
                  clear F9 g9
                  go_wp2
                  refine bodyPost_ret (v := hdA ⟨0, 0, 0, 0, 0, 2, f⟩) (by simp only [results, Tryz.results9, hdA]; go_simp) rfl ⟨rfl, gb_own7 G9.out HRW.out⟩
                · have hR := HJ.out.symm.trans (nums_big (r := 2) (fun h => absurd h.1 (by decide)) eg (by omega) ⟨by decide, h0⟩)
                  have hv2 : V = ⟨0, 0, 0, 0, 0, 3, f⟩ := by
                    rw [HVV.out, hR]
                    exact endV_fault (by show ¬ 3 = 0; decide)
                  have d6 : ((v : Int) == 0) = false := by rw [beq_eq_false_iff_ne]; omega
                  have d7 : decide ((16384 : Int) < v) = true := decide_eq_true (by omega)
                  subst hv2
                  clear eg hR HJ HVV
                  go_wp2_with fail
                  refine (KR.out _).mono ?_
                  rintro e w3 ⟨rfl, g3⟩
                  have HF4 := Lib.hid (HF3.out _ g3)
                  have HG4 := Lib.hid (HG3.out _ g3)
                  clear g3 KR HF3 HG3 HF2 HG2 HD2
                  simp only [gotA]
                  go_wp2_with fail
                  refine (rbad_calls 3 f _).mono ?_
                  rintro e w9 ⟨rfl, g9⟩
                  have F9 := HF4.out.grown g9 (by simp)
                  have rq0 := F9.c0
                  have rq1 := F9.c1
                  have rq2 := F9.c2
                  have rq3 := F9.c3
                  have rq4 := F9.c4
                  have rq5 := F9.c5
                  have rq6 := F9.c6
                  have rf0 := F9.free 0
                  have rf1 := F9.free 1
                  have rf2 := F9.free 2
                  have rf3 := F9.free 3
                  have rf4 := F9.free 4
                  have rf5 := F9.free 5
                  have rf6 := F9.free 6
                  have G9 := Lib.hid (gb_trans HG4.out g9)
                  clear F9 g9
                  go_wp2
                  refine bodyPost_ret (v := hdA ⟨0, 0, 0, 0, 0, 3, f⟩) (by simp only [results, Tryz.results9, hdA]; go_simp) rfl ⟨rfl, gb_own7 G9.out HRW.out⟩
                · have hR := (nums_on (r := 2) (fun h => absurd h.1 (by decide)) eg (by omega) (by omega)).symm.trans HJ.out
                  have HR2 := Lib.hid hR
                  have d6 : ((v : Int) == 0) = false := by rw [beq_eq_false_iff_ne]; omega
                  have d7 : decide ((16384 : Int) < v) = false := decide_eq_false (by omega)
                  have hlt := HD2.out.lt
                  clear eg hR HJ
                  go_wp2_with fail
                  refine (KR.out _).mono ?_
                  rintro e w3 ⟨rfl, g3⟩
                  have D3 := HD2.out.grown g3 (by simp)
                  have q1 := D3.c1
                  have f1 := D3.free 1
                  have hlt3 := D3.lt
                  have HD3 := Lib.hid D3
                  have HF4 := Lib.hid (HF2.out.grown g3 (by simp))
                  have HG4 := Lib.hid (gb_trans HG2.out g3)
                  clear g3 KR HF3 HG3 HF2 HG2 HD2 D3
                  simp only [gotA]
                  go_wp2
                  go_roundg 2
                  case measure => omega
                  case rel => exact ⟨1, j, v, h, m, _, by decide, hjs, rfl, by go_num, by go_num, HR2.out, (HD3.out.set1 v).al _, (HF4.out.oth hne').al _, gb_trans (gb_own1 HG4.out (by have := HRW.out; have := HHD.out; omega)) (World.grownBy_alloc _ _ none)⟩
            · have KR := fun u => rnumber_calls s a u hs ha
              rcases gotV_gd s a ha with ⟨kd, pl, eg, hk0, hk3, hpl, _⟩ | ⟨v, f, j, eg, hkf, hfj, hjs, hv, hNj⟩
              · simp only [eg] at KR
                have KR := Lib.hid KR
                have hR := HJ.out.symm.trans (nums_fault (r := 1) (fun h => absurd h.1 (by decide)) eg hk0)
                have hv2 : V = ⟨0, 0, 0, 0, 0, kd, pl⟩ := by
                  rw [HVV.out, hR]
                  exact endV_fault hk0
                have d5 : ((kd : Int) == 0) = false := by rw [beq_eq_false_iff_ne]; omega
                have d5' : ((kd : Int) != 0) = true := by rw [bne_iff_ne]; omega
                subst hv2
                clear eg hR HJ HVV
                go_wp2_with fail
                refine (KR.out _).mono ?_
                rintro e w3 ⟨rfl, g3⟩
                have HF3 := Lib.hid ((HF2.out.grown g3 (by simp)).al (.cells #[.int .i64 0, .int .i64 0, .int .i64 0, .int .i64 kd, .int .i64 pl] 55))
                have HG3 := Lib.hid (gb_trans (gb_trans HG2.out g3) (World.grownBy_alloc w3 (.cells #[.int .i64 0, .int .i64 0, .int .i64 0, .int .i64 kd, .int .i64 pl] 55) none))
                clear g3 KR HF2 HG2 HD2
                simp only [gotA]
                go_wp2_with fail
                refine (rbad_calls kd pl _).mono ?_
                rintro e w9 ⟨rfl, g9⟩
                have F9 := HF3.out.grown g9 (by simp)
                have rq0 := F9.c0
                have rq1 := F9.c1
                have rq2 := F9.c2
                have rq3 := F9.c3
                have rq4 := F9.c4
                have rq5 := F9.c5
                have rq6 := F9.c6
                have rf0 := F9.free 0
                have rf1 := F9.free 1
                have rf2 := F9.free 2
                have rf3 := F9.free 3
                have rf4 := F9.free 4
                have rf5 := F9.free 5
                have rf6 := F9.free 6
                have G9 := Lib.hid (gb_trans HG3.out g9)
                clear F9 g9
                go_wp2
                refine bodyPost_ret (v := hdA ⟨0, 0, 0, 0, 0, kd, pl⟩) (by simp only [results, Tryz.results9, hdA]; go_simp) rfl ⟨rfl, gb_own7 G9.out HRW.out⟩
              · simp only [eg] at KR
                have KR := Lib.hid KR
                have hG3 := fun (u : World) (g : wr.grownBy u none) => gb_trans (gb_trans HG2.out g) (World.grownBy_alloc u (.cells #[.int .i64 v, .int .i64 f, .int .i64 j, .int .i64 0, .int .i64 0] 55) none)
                have hF3 := fun (u : World) (g : wr.grownBy u none) => (HF2.out.grown g (by simp)).al (.cells #[.int .i64 v, .int .i64 f, .int .i64 j, .int .i64 0, .int .i64 0] 55)
                have HG3 := Lib.hid hG3
                have HF3 := Lib.hid hF3
                clear hG3 hF3
                rcases (show v = 0 ∨ 16384 < v ∨ (v ≠ 0 ∧ v ≤ 16384) from by omega) with h0 | h0 | ⟨h0, h1⟩
                · have hR := HJ.out.symm.trans (nums_bad (r := 1) (fun h => absurd h.1 (by decide)) eg (.inl h0))
                  have hv2 : V = ⟨0, 0, 0, 0, 0, 2, f⟩ := by
                    rw [HVV.out, hR]
                    exact endV_fault (by show ¬ 2 = 0; decide)
                  have d6 : ((v : Int) == 0) = true := by rw [beq_iff_eq]; omega
                  clear h0
                  subst hv2
                  clear eg hR HJ HVV
                  go_wp2_with fail
                  refine (KR.out _).mono ?_
                  rintro e w3 ⟨rfl, g3⟩
                  have HF4 := Lib.hid (HF3.out _ g3)
                  have HG4 := Lib.hid (HG3.out _ g3)
                  clear g3 KR HF3 HG3 HF2 HG2 HD2
                  simp only [gotA]
                  go_wp2_with fail
                  refine (rbad_calls 2 f _).mono ?_
                  rintro e w9 ⟨rfl, g9⟩
                  have F9 := HF4.out.grown g9 (by simp)
                  have rq0 := F9.c0
                  have rq1 := F9.c1
                  have rq2 := F9.c2
                  have rq3 := F9.c3
                  have rq4 := F9.c4
                  have rq5 := F9.c5
                  have rq6 := F9.c6
                  have rf0 := F9.free 0
                  have rf1 := F9.free 1
                  have rf2 := F9.free 2
                  have rf3 := F9.free 3
                  have rf4 := F9.free 4
                  have rf5 := F9.free 5
                  have rf6 := F9.free 6
                  have G9 := Lib.hid (gb_trans HG4.out g9)
                  clear F9 g9
                  go_wp2
                  refine bodyPost_ret (v := hdA ⟨0, 0, 0, 0, 0, 2, f⟩) (by simp only [results, Tryz.results9, hdA]; go_simp) rfl ⟨rfl, gb_own7 G9.out HRW.out⟩
                · have hR := HJ.out.symm.trans (nums_big (r := 1) (fun h => absurd h.1 (by decide)) eg (by omega) ⟨by decide, h0⟩)
                  have hv2 : V = ⟨0, 0, 0, 0, 0, 3, f⟩ := by
                    rw [HVV.out, hR]
                    exact endV_fault (by show ¬ 3 = 0; decide)
                  have d6 : ((v : Int) == 0) = false := by rw [beq_eq_false_iff_ne]; omega
                  have d7 : decide ((16384 : Int) < v) = true := decide_eq_true (by omega)
                  subst hv2
                  clear eg hR HJ HVV
                  go_wp2_with fail
                  refine (KR.out _).mono ?_
                  rintro e w3 ⟨rfl, g3⟩
                  have HF4 := Lib.hid (HF3.out _ g3)
                  have HG4 := Lib.hid (HG3.out _ g3)
                  clear g3 KR HF3 HG3 HF2 HG2 HD2
                  simp only [gotA]
                  go_wp2_with fail
                  refine (rbad_calls 3 f _).mono ?_
                  rintro e w9 ⟨rfl, g9⟩
                  have F9 := HF4.out.grown g9 (by simp)
                  have rq0 := F9.c0
                  have rq1 := F9.c1
                  have rq2 := F9.c2
                  have rq3 := F9.c3
                  have rq4 := F9.c4
                  have rq5 := F9.c5
                  have rq6 := F9.c6
                  have rf0 := F9.free 0
                  have rf1 := F9.free 1
                  have rf2 := F9.free 2
                  have rf3 := F9.free 3
                  have rf4 := F9.free 4
                  have rf5 := F9.free 5
                  have rf6 := F9.free 6
                  have G9 := Lib.hid (gb_trans HG4.out g9)
                  clear F9 g9
                  go_wp2
                  refine bodyPost_ret (v := hdA ⟨0, 0, 0, 0, 0, 3, f⟩) (by simp only [results, Tryz.results9, hdA]; go_simp) rfl ⟨rfl, gb_own7 G9.out HRW.out⟩
                · have hR := (nums_on (r := 1) (fun h => absurd h.1 (by decide)) eg (by omega) (by omega)).symm.trans HJ.out
                  have HR2 := Lib.hid hR
                  have d6 : ((v : Int) == 0) = false := by rw [beq_eq_false_iff_ne]; omega
                  have d7 : decide ((16384 : Int) < v) = false := decide_eq_false (by omega)
                  have hlt := HD2.out.lt
                  clear eg hR HJ
                  go_wp2_with fail
                  refine (KR.out _).mono ?_
                  rintro e w3 ⟨rfl, g3⟩
                  have D3 := HD2.out.grown g3 (by simp)
                  have q2 := D3.c2
                  have f2 := D3.free 2
                  have hlt3 := D3.lt
                  have HD3 := Lib.hid D3
                  have HF4 := Lib.hid (HF2.out.grown g3 (by simp))
                  have HG4 := Lib.hid (gb_trans HG2.out g3)
                  clear g3 KR HF3 HG3 HF2 HG2 HD2 D3
                  simp only [gotA]
                  go_wp2
                  go_roundg 1
                  case measure => omega
                  case rel => exact ⟨2, j, w, v, m, _, by decide, hjs, rfl, by go_num, by go_num, HR2.out, (HD3.out.set2 v).al _, (HF4.out.oth hne').al _, gb_trans (gb_own1 HG4.out (by have := HRW.out; have := HHD.out; omega)) (World.grownBy_alloc _ _ none)⟩
            · by_cases hbit : k = 1 ∨ k = 4
              · have hR := HJ.out
                rw [nums_bit hbit] at hR
                have HR2 := Lib.hid hR
                have dk : (((k : Int) == 1) = true) ∨ (((k : Int) == 1) = false ∧ ((k : Int) == 4) = true) := by
                  rcases hbit with h | h
                  · exact .inl (by rw [beq_iff_eq]; omega)
                  · exact .inr ⟨by rw [beq_eq_false_iff_ne]; omega, by rw [beq_iff_eq]; omega⟩
                clear hR HJ hbit
                rcases dk with dk | ⟨dk, dk'⟩
                all_goals
                  go_wp2
                  go_roundg 0
                  case measure => omega
                  case rel => exact ⟨3, a, w, h, m, n, by decide, ha, rfl, by go_num, by go_num, HR2.out, HD2.out, HF2.out, HG2.out⟩
              · have dk : ((k : Int) == 1) = false := by rw [beq_eq_false_iff_ne]; omega
                have dk' : ((k : Int) == 4) = false := by rw [beq_eq_false_iff_ne]; omega
                have KR := fun u => rnumber_calls s a u hs ha
                rcases gotV_gd s a ha with ⟨kd, pl, eg, hk0, hk3, hpl, _⟩ | ⟨v, f, j, eg, hkf, hfj, hjs, hv, hNj⟩
                · simp only [eg] at KR
                  have KR := Lib.hid KR
                  have hR := HJ.out.symm.trans (nums_fault (r := 0) (fun h => hbit h.2) eg hk0)
                  have hv2 : V = ⟨0, 0, 0, 0, 0, kd, pl⟩ := by
                    rw [HVV.out, hR]
                    exact endV_fault hk0
                  have d5 : ((kd : Int) == 0) = false := by rw [beq_eq_false_iff_ne]; omega
                  have d5' : ((kd : Int) != 0) = true := by rw [bne_iff_ne]; omega
                  subst hv2
                  clear eg hR HJ HVV
                  go_wp2_with fail
                  refine (KR.out _).mono ?_
                  rintro e w3 ⟨rfl, g3⟩
                  have HF3 := Lib.hid ((HF2.out.grown g3 (by simp)).al (.cells #[.int .i64 0, .int .i64 0, .int .i64 0, .int .i64 kd, .int .i64 pl] 55))
                  have HG3 := Lib.hid (gb_trans (gb_trans HG2.out g3) (World.grownBy_alloc w3 (.cells #[.int .i64 0, .int .i64 0, .int .i64 0, .int .i64 kd, .int .i64 pl] 55) none))
                  clear g3 KR HF2 HG2 HD2
                  simp only [gotA]
                  go_wp2_with fail
                  refine (rbad_calls kd pl _).mono ?_
                  rintro e w9 ⟨rfl, g9⟩
                  have F9 := HF3.out.grown g9 (by simp)
                  have rq0 := F9.c0
                  have rq1 := F9.c1
                  have rq2 := F9.c2
                  have rq3 := F9.c3
                  have rq4 := F9.c4
                  have rq5 := F9.c5
                  have rq6 := F9.c6
                  have rf0 := F9.free 0
                  have rf1 := F9.free 1
                  have rf2 := F9.free 2
                  have rf3 := F9.free 3
                  have rf4 := F9.free 4
                  have rf5 := F9.free 5
                  have rf6 := F9.free 6
                  have G9 := Lib.hid (gb_trans HG3.out g9)
                  clear F9 g9
                  go_wp2
                  refine bodyPost_ret (v := hdA ⟨0, 0, 0, 0, 0, kd, pl⟩) (by simp only [results, Tryz.results9, hdA]; go_simp) rfl ⟨rfl, gb_own7 G9.out HRW.out⟩
                · simp only [eg] at KR
                  have KR := Lib.hid KR
                  have hG3 := fun (u : World) (g : wr.grownBy u none) => gb_trans (gb_trans HG2.out g) (World.grownBy_alloc u (.cells #[.int .i64 v, .int .i64 f, .int .i64 j, .int .i64 0, .int .i64 0] 55) none)
                  have hF3 := fun (u : World) (g : wr.grownBy u none) => (HF2.out.grown g (by simp)).al (.cells #[.int .i64 v, .int .i64 f, .int .i64 j, .int .i64 0, .int .i64 0] 55)
                  have HG3 := Lib.hid hG3
                  have HF3 := Lib.hid hF3
                  clear hG3 hF3
                  rcases (show v = 0 ∨ 65535 < v ∨ (v ≠ 0 ∧ v ≤ 65535) from by omega) with h0 | h0 | ⟨h0, h1⟩
                  · have hR := HJ.out.symm.trans (nums_bad (r := 0) (fun h => hbit h.2) eg (.inl h0))
                    have hv2 : V = ⟨0, 0, 0, 0, 0, 2, f⟩ := by
                      rw [HVV.out, hR]
                      exact endV_fault (by show ¬ 2 = 0; decide)
                    have d6 : ((v : Int) == 0) = true := by rw [beq_iff_eq]; omega
                    clear h0
                    subst hv2
                    clear eg hR HJ HVV
                    go_wp2_with fail
                    refine (KR.out _).mono ?_
                    rintro e w3 ⟨rfl, g3⟩
                    have HF4 := Lib.hid (HF3.out _ g3)
                    have HG4 := Lib.hid (HG3.out _ g3)
                    clear g3 KR HF3 HG3 HF2 HG2 HD2
                    simp only [gotA]
                    go_wp2_with fail
                    refine (rbad_calls 2 f _).mono ?_
                    rintro e w9 ⟨rfl, g9⟩
                    have F9 := HF4.out.grown g9 (by simp)
                    have rq0 := F9.c0
                    have rq1 := F9.c1
                    have rq2 := F9.c2
                    have rq3 := F9.c3
                    have rq4 := F9.c4
                    have rq5 := F9.c5
                    have rq6 := F9.c6
                    have rf0 := F9.free 0
                    have rf1 := F9.free 1
                    have rf2 := F9.free 2
                    have rf3 := F9.free 3
                    have rf4 := F9.free 4
                    have rf5 := F9.free 5
                    have rf6 := F9.free 6
                    have G9 := Lib.hid (gb_trans HG4.out g9)
                    clear F9 g9
                    go_wp2
                    refine bodyPost_ret (v := hdA ⟨0, 0, 0, 0, 0, 2, f⟩) (by simp only [results, Tryz.results9, hdA]; go_simp) rfl ⟨rfl, gb_own7 G9.out HRW.out⟩
                  · have hR := HJ.out.symm.trans (nums_bad (r := 0) (fun h => hbit h.2) eg (.inr ⟨rfl, h0⟩))
                    have hv2 : V = ⟨0, 0, 0, 0, 0, 2, f⟩ := by
                      rw [HVV.out, hR]
                      exact endV_fault (by show ¬ 2 = 0; decide)
                    have d6 : ((v : Int) == 0) = false := by rw [beq_eq_false_iff_ne]; omega
                    have d7 : decide ((65535 : Int) < v) = true := decide_eq_true (by omega)
                    subst hv2
                    clear eg hR HJ HVV
                    go_wp2_with fail
                    refine (KR.out _).mono ?_
                    rintro e w3 ⟨rfl, g3⟩
                    have HF4 := Lib.hid (HF3.out _ g3)
                    have HG4 := Lib.hid (HG3.out _ g3)
                    clear g3 KR HF3 HG3 HF2 HG2 HD2
                    simp only [gotA]
                    go_wp2_with fail
                    refine (rbad_calls 2 f _).mono ?_
                    rintro e w9 ⟨rfl, g9⟩
                    have F9 := HF4.out.grown g9 (by simp)
                    have rq0 := F9.c0
                    have rq1 := F9.c1
                    have rq2 := F9.c2
                    have rq3 := F9.c3
                    have rq4 := F9.c4
                    have rq5 := F9.c5
                    have rq6 := F9.c6
                    have rf0 := F9.free 0
                    have rf1 := F9.free 1
                    have rf2 := F9.free 2
                    have rf3 := F9.free 3
                    have rf4 := F9.free 4
                    have rf5 := F9.free 5
                    have rf6 := F9.free 6
                    have G9 := Lib.hid (gb_trans HG4.out g9)
                    clear F9 g9
                    go_wp2
                    refine bodyPost_ret (v := hdA ⟨0, 0, 0, 0, 0, 2, f⟩) (by simp only [results, Tryz.results9, hdA]; go_simp) rfl ⟨rfl, gb_own7 G9.out HRW.out⟩
                  · have hR := (nums_on (r := 0) (fun h => hbit h.2) eg (by omega) (by omega)).symm.trans HJ.out
                    have HR2 := Lib.hid hR
                    have d6 : ((v : Int) == 0) = false := by rw [beq_eq_false_iff_ne]; omega
                    have d7 : decide ((65535 : Int) < v) = false := decide_eq_false (by omega)
                    have hlt := HD2.out.lt
                    clear eg hR HJ
                    go_wp2_with fail
                    refine (KR.out _).mono ?_
                    rintro e w3 ⟨rfl, g3⟩
                    have D3 := HD2.out.grown g3 (by simp)
                    have q3 := D3.c3
                    have f3 := D3.free 3
                    have hlt3 := D3.lt
                    have HD3 := Lib.hid D3
                    have HF4 := Lib.hid (HF2.out.grown g3 (by simp))
                    have HG4 := Lib.hid (gb_trans HG2.out g3)
                    clear g3 KR HF3 HG3 HF2 HG2 HD2 D3
                    simp only [gotA]
                    go_wp2
                    go_roundg 0
                    case measure => omega
                    case rel => exact ⟨3, j, w, h, v, _, by decide, hjs, rfl, by go_num, by go_num, HR2.out, (HD3.out.set3 v).al _, (HF4.out.oth hne').al _, gb_trans (gb_own1 HG4.out (by have := HRW.out; have := HHD.out; omega)) (World.grownBy_alloc _ _ none)⟩
            · have hR : R = ⟨0, 0, a, w, h, m, n⟩ := HJ.out.symm
              subst hR
              clear HJ
              by_cases h4 : 4 ≤ k
              · have d5 : decide ((4 : Int) ≤ k) = true := decide_eq_true (by omega)
                by_cases h5 : s.size ≤ a
                · have d6 : decide ((s.size : Int) ≤ a) = true := decide_eq_true (by omega)
                  have hv2 := HVV.out.trans (endV_short rfl h4 h5)
                  subst hv2
                  clear HVV HD2
                  go_wp2_with fail
                  refine (rbad_calls 1 s.size _).mono ?_
                  rintro e w9 ⟨rfl, g9⟩
                  have F9 := HF2.out.grown g9 (by simp)
                  have rq0 := F9.c0
                  have rq1 := F9.c1
                  have rq2 := F9.c2
                  have rq3 := F9.c3
                  have rq4 := F9.c4
                  have rq5 := F9.c5
                  have rq6 := F9.c6
                  have rf0 := F9.free 0
                  have rf1 := F9.free 1
                  have rf2 := F9.free 2
                  have rf3 := F9.free 3
                  have rf4 := F9.free 4
                  have rf5 := F9.free 5
                  have rf6 := F9.free 6
                  have G9 := Lib.hid (gb_trans HG2.out g9)
                  clear F9 g9
                  go_wp2
                  refine bodyPost_ret (v := hdA ⟨0, 0, 0, 0, 0, 1, s.size⟩) (by simp only [results, Tryz.results9, hdA]; go_simp) rfl ⟨rfl, gb_own7 G9.out HRW.out⟩
                · have d6 : decide ((s.size : Int) ≤ a) = false := decide_eq_false (by omega)
                  have has : a < s.size := by omega
                  obtain ⟨x, hx⟩ : ∃ x, bt s a = x := ⟨_, rfl⟩
                  have hcx := bt_cell s a has hx
                  have x256 : x < 256 := by rw [← hx]; exact bt_lt s a
                  have KB := fun u => rblank_calls x x256 u
                  cases eB : blankB x
                  · have hv2 := HVV.out.trans (endV_bad rfl h4 has (by show blankB (bt s a) = false; rw [hx]; exact eB))
                    simp only [eB] at KB
                    have KB := Lib.hid KB
                    subst hv2
                    clear HVV HD2 eB hx
                    go_wp2_with fail
                    refine (KB.out _).mono ?_
                    rintro e w' ⟨rfl, rfl⟩
                    go_wp2_with fail
                    refine (rbad_calls 2 a _).mono ?_
                    rintro e w9 ⟨rfl, g9⟩
                    have F9 := HF2.out.grown g9 (by simp)
                    have rq0 := F9.c0
                    have rq1 := F9.c1
                    have rq2 := F9.c2
                    have rq3 := F9.c3
                    have rq4 := F9.c4
                    have rq5 := F9.c5
                    have rq6 := F9.c6
                    have rf0 := F9.free 0
                    have rf1 := F9.free 1
                    have rf2 := F9.free 2
                    have rf3 := F9.free 3
                    have rf4 := F9.free 4
                    have rf5 := F9.free 5
                    have rf6 := F9.free 6
                    have G9 := Lib.hid (gb_trans HG2.out g9)
                    clear F9 g9
                    go_wp2
                    refine bodyPost_ret (v := hdA ⟨0, 0, 0, 0, 0, 2, a⟩) (by simp only [results, Tryz.results9, hdA]; go_simp) rfl ⟨rfl, gb_own7 G9.out HRW.out⟩
                  · have hv2 := HVV.out.trans (endV_yes rfl h4 has (by show blankB (bt s a) = true; rw [hx]; exact eB))
                    simp only [eB] at KB
                    have KB := Lib.hid KB
                    subst hv2
                    clear HVV eB hx
                    go_wp2_with fail
                    refine (KB.out _).mono ?_
                    rintro e w' ⟨rfl, rfl⟩
                    have F9 := HF2.out
                    have rq0 := F9.c0
                    have rq1 := F9.c1
                    have rq2 := F9.c2
                    have rq3 := F9.c3
                    have rq4 := F9.c4
                    have rq5 := F9.c5
                    have rq6 := F9.c6
                    have rf0 := F9.free 0
                    have rf1 := F9.free 1
                    have rf2 := F9.free 2
                    have rf3 := F9.free 3
                    have rf4 := F9.free 4
                    have rf5 := F9.free 5
                    have rf6 := F9.free 6
                    have D9 := HD2.out
                    have hq0 := D9.c0
                    have hq1 := D9.c1
                    have hq2 := D9.c2
                    have hq3 := D9.c3
                    have hq4 := D9.c4
                    have hq5 := D9.c5
                    have hq6 := D9.c6
                    have hf0 := D9.free 0
                    have hf1 := D9.free 1
                    have hf2 := D9.free 2
                    have hf3 := D9.free 3
                    have hf4 := D9.free 4
                    have hf5 := D9.free 5
                    have hf6 := D9.free 6
                    clear F9 D9
                    go_wp2
                    refine bodyPost_ret (v := hdA ⟨k, w, h, m, a + 1, 0, 0⟩) (by simp only [results, Tryz.results9, hdA]; go_simp) rfl ⟨rfl, gb_own7 (gb_own1 HG2.out (by have := HRW.out; have := HHD.out; omega)) HRW.out⟩
              · have d5 : decide ((4 : Int) ≤ k) = false := decide_eq_false (by omega)
                have hv2 := HVV.out.trans (endV_text rfl h4)
                subst hv2
                clear HVV
                have F9 := HF2.out
                have rq0 := F9.c0
                have rq1 := F9.c1
                have rq2 := F9.c2
                have rq3 := F9.c3
                have rq4 := F9.c4
                have rq5 := F9.c5
                have rq6 := F9.c6
                have rf0 := F9.free 0
                have rf1 := F9.free 1
                have rf2 := F9.free 2
                have rf3 := F9.free 3
                have rf4 := F9.free 4
                have rf5 := F9.free 5
                have rf6 := F9.free 6
                have D9 := HD2.out
                have hq0 := D9.c0
                have hq1 := D9.c1
                have hq2 := D9.c2
                have hq3 := D9.c3
                have hq4 := D9.c4
                have hq5 := D9.c5
                have hq6 := D9.c6
                have hf0 := D9.free 0
                have hf1 := D9.free 1
                have hf2 := D9.free 2
                have hf3 := D9.free 3
                have hf4 := D9.free 4
                have hf5 := D9.free 5
                have hf6 := D9.free 6
                clear F9 D9
                go_wp2
                refine bodyPost_ret (v := hdA ⟨k, w, h, m, a, 0, 0⟩) (by simp only [results, Tryz.results9, hdA]; go_simp) rfl ⟨rfl, gb_own7 (gb_own1 HG2.out (by have := HRW.out; have := HHD.out; omega)) HRW.out⟩
        · have hv := HV.out.trans (readV_3 (by omega) (hx.trans h1) (by rw [hy]; exact h3))
          subst hv
          rcases (show (y : Int) - 48 < 1 ∨ (¬ (y : Int) - 48 < 1 ∧ 6 < (y : Int) - 48) from by omega) with h4 | ⟨h4, h5⟩
          · have d3 : decide ((y : Int) - 48 < 1) = true := decide_eq_true h4
            clear HV h0 h1 h2 hx hy h3
            go_enter Tryz.func9, Tryz.ntmps9
            go_wp2_with fail
            generalize W.alloc (.cells #[.int .i64 0, .int .i64 0, .int .i64 0, .int .i64 0, .int .i64 0, .int .i64 0, .int .i64 0] 24) = w0 at HF0 HG0 HZ0 ⊢
            refine (rbad_calls 2 1 _).mono ?_
            rintro e w9 ⟨rfl, g9⟩
            have F9 := HF0.out.grown g9 (by simp)
            have rq0 := F9.c0
            have rq1 := F9.c1
            have rq2 := F9.c2
            have rq3 := F9.c3
            have rq4 := F9.c4
            have rq5 := F9.c5
            have rq6 := F9.c6
            have rf0 := F9.free 0
            have rf1 := F9.free 1
            have rf2 := F9.free 2
            have rf3 := F9.free 3
            have rf4 := F9.free 4
            have rf5 := F9.free 5
            have rf6 := F9.free 6
            have G9 := Lib.hid (gb_trans HG0.out g9)
            clear F9 g9
            go_wp2
            refine bodyPost_ret (v := hdA ⟨0, 0, 0, 0, 0, 2, 1⟩) (by simp only [results, Tryz.results9, hdA]; go_simp) rfl ⟨rfl, gb_own7 G9.out HRW.out⟩
          · have d3 : decide ((y : Int) - 48 < 1) = false := decide_eq_false h4
            have d4 : decide (6 < (y : Int) - 48) = true := decide_eq_true h5
            clear HV h0 h1 h2 hx hy h3
            go_enter Tryz.func9, Tryz.ntmps9
            go_wp2_with fail
            generalize W.alloc (.cells #[.int .i64 0, .int .i64 0, .int .i64 0, .int .i64 0, .int .i64 0, .int .i64 0, .int .i64 0] 24) = w0 at HF0 HG0 HZ0 ⊢
            refine (rbad_calls 2 1 _).mono ?_
            rintro e w9 ⟨rfl, g9⟩
            have F9 := HF0.out.grown g9 (by simp)
            have rq0 := F9.c0
            have rq1 := F9.c1
            have rq2 := F9.c2
            have rq3 := F9.c3
            have rq4 := F9.c4
            have rq5 := F9.c5
            have rq6 := F9.c6
            have rf0 := F9.free 0
            have rf1 := F9.free 1
            have rf2 := F9.free 2
            have rf3 := F9.free 3
            have rf4 := F9.free 4
            have rf5 := F9.free 5
            have rf6 := F9.free 6
            have G9 := Lib.hid (gb_trans HG0.out g9)
            clear F9 g9
            go_wp2
            refine bodyPost_ret (v := hdA ⟨0, 0, 0, 0, 0, 2, 1⟩) (by simp only [results, Tryz.results9, hdA]; go_simp) rfl ⟨rfl, gb_own7 G9.out HRW.out⟩
    · have e1 : ((x : Int) == 80) = false := by rw [beq_eq_false_iff_ne]; omega
      have e1' : ((x : Int) != 80) = true := by rw [bne_iff_ne]; omega
      have hv := HV.out.trans (readV_1 h0 (by rw [hx]; exact h1))
      subst hv
      clear HV h0 h1 hx
      go_enter Tryz.func9, Tryz.ntmps9
      go_wp2_with fail
      generalize W.alloc (.cells #[.int .i64 0, .int .i64 0, .int .i64 0, .int .i64 0, .int .i64 0, .int .i64 0, .int .i64 0] 24) = w0 at HF0 HG0 HZ0 ⊢
      refine (rbad_calls 2 0 _).mono ?_
      rintro e w9 ⟨rfl, g9⟩
      have F9 := HF0.out.grown g9 (by simp)
      have rq0 := F9.c0
      have rq1 := F9.c1
      have rq2 := F9.c2
      have rq3 := F9.c3
      have rq4 := F9.c4
      have rq5 := F9.c5
      have rq6 := F9.c6
      have rf0 := F9.free 0
      have rf1 := F9.free 1
      have rf2 := F9.free 2
      have rf3 := F9.free 3
      have rf4 := F9.free 4
      have rf5 := F9.free 5
      have rf6 := F9.free 6
      have G9 := Lib.hid (gb_trans HG0.out g9)
      clear F9 g9
      go_wp2
      refine bodyPost_ret (v := hdA ⟨0, 0, 0, 0, 0, 2, 0⟩) (by simp only [results, Tryz.results9, hdA]; go_simp) rfl ⟨rfl, gb_own7 G9.out HRW.out⟩

end Go.Proofs.YtcfdippcobkbaaaGreat.Ph
