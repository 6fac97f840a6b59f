/- Texts of one kind, one behind the other: Prw1, Prw2, Prw3, Prw4, Prw5, Fil7, Run0, Ex1, RdC, RdD, Docs. -/
import Derived.BigRegion
import Derived.Deep.LoopGhost
import Derived.Test.YtcfdippcobkbaaaGreatG06
import Derived.Test.YtcfdippcobkbaaaGreatG16
import Derived.Test.YtcfdippcobkbaaaGreatG17
import Derived.Test.YtcfdippcobkbaaaGreatG19
import Derived.Test.YtcfdippcobkbaaaGreatG25
import Derived.Test.YtcfdippcobkbaaaGreatG28
/- Raw samples: read, as eight bits; by a scaler whose table lies behind a bound. -/
namespace Go.Proofs.YtcfdippcobkbaaaGreat.Px
open Go.ChangeShapes Go.WideShapes Go.ChangeAt Go.RowKit
open Go.Proofs.YtcfdippcobkbaaaGreat.Le Go.Proofs.YtcfdippcobkbaaaGreat.Tk Go.Proofs.YtcfdippcobkbaaaGreat.Sc Go.Proofs.YtcfdippcobkbaaaGreat.Sr Go.Proofs.YtcfdippcobkbaaaGreat.Ph
set_option linter.unusedVariables false

/-- A scaler, asked or not; its table, if it has one, lies at B or behind. -/
def Sq (B b m : Nat) (w : World) : Prop := B ≤ w.heap.size ∧ (Sca b m 0 0 (.slice none 0 0) w ∨ ∃ g, B ≤ g ∧ Sca b m 1 0 (.slice (some ⟨g, 0, none⟩) (m + 1) (m + 1)) w ∧ TabK g m (m + 1) w)
theorem Sq.lt {B b m : Nat} {w : World} (h : Sq B b m w) : b < w.heap.size := by
  rcases h with ⟨_, h | ⟨g, _, h, _⟩⟩
  · exact h.lt
  · exact h.lt
theorem Sq.c0 {B b m : Nat} {w : World} (h : Sq B b m w) : w.cell? ⟨b, 0, none⟩ = some (.int .i64 m) := by
  rcases h with ⟨_, h | ⟨g, _, h, _⟩⟩
  · exact blk_cell h 0
  · exact blk_cell h 0
theorem Sq.turned {B b m : Nat} {w w' : World} {S : List Nat} (h : Sq B b m w) (t : Tn w w' S) (hb : b ∉ S) (hS : ∀ k, k ∈ S → k < B) : Sq B b m w' := by
  obtain ⟨hB, h | ⟨g, hg, h, C, C1, C2, C3⟩⟩ := h
  · exact ⟨Nat.le_trans hB t.size, .inl ((t.block b h.lt hb).trans h)⟩
  · refine ⟨Nat.le_trans hB t.size, .inr ⟨g, hg, (t.block b h.lt hb).trans h, C, (t.block g (blk_lt C1) (fun hk => ?_)).trans C1, C2, C3⟩⟩
    have := hS g hk
    omega
theorem sq_do (B b m : Nat) (w : World) (h : Sq B b m w) (m1 : 1 ≤ m) (m2 : m ≤ 65535) :
    Calls Tryz.prog 112 #[.pointer (some ⟨b, 1, none⟩), .func (.func 153) #[.pointer (some ⟨b, 0, none⟩)] #[]] w
      fun e w' => e = .returned (.tuple #[]) ∧ ∃ g, B ≤ g ∧ Sca b m 1 0 (.slice (some ⟨g, 0, none⟩) (m + 1) (m + 1)) w' ∧ TabK g m (m + 1) w' ∧ w.grownBy w' (some b) := by
  rcases h with ⟨hB, h | ⟨g, hg, h, t⟩⟩
  · refine (sdo_first b m _ w h m1 m2).mono ?_
    rintro e w' ⟨rfl, g, a, b, c, d⟩
    exact ⟨rfl, g, Nat.le_trans hB d, a, b, c⟩
  · refine (sdo_again b m _ _ w h).mono ?_
    rintro e w' ⟨rfl, rfl⟩
    exact ⟨rfl, g, hg, h, t, gb_refl _ _⟩
theorem sq_no (B b m : Nat) (v : Int) (w : World) (h : Sq B b m w) (hv : v < 0 ∨ (m : Int) < v) :
    Calls Tryz.prog 145 #[.pointer (some ⟨b, 0, none⟩), .int .i64 v] w fun e w' => e = .returned (.tuple #[.int .u8 0, .bool false]) ∧ w = w' := by
  have c0 := h.c0
  clear h
  by_cases h0 : v < 0
  · clear hv
    go_enter Tryz.func145, Tryz.ntmps145
    go_wp2
    go_ret2
    exact ⟨rfl, rfl⟩
  · have h1 : (m : Int) < v := by omega
    clear hv
    go_enter Tryz.func145, Tryz.ntmps145
    go_wp2
    go_ret2
    exact ⟨rfl, rfl⟩
set_option maxRecDepth 100000 in
theorem sq_yes (B b m v : Nat) (w : World) (h : Sq B b m w) (m1 : 1 ≤ m) (m2 : m ≤ 65535) (hv : v ≤ m) :
    Calls Tryz.prog 145 #[.pointer (some ⟨b, 0, none⟩), .int .i64 v] w fun e w' => e = .returned (.tuple #[.int .u8 (near v m), .bool true]) ∧ Sq B b m w' ∧ w.grownBy w' (some b) := by
  have c0 := h.c0
  have hmf : ∀ (fn : Fn) (first cap : Array Value) (w : World), (Instr.makeFunc fn first cap).run Tryz.prog w = .ok (.func fn first cap) w := fun _ _ _ _ => rfl
  have K := Lib.hid (sq_do B b m w h m1 m2)
  have hvm : (v : Int) ≤ m := by omega
  have hB := h.1
  obtain ⟨y, hy⟩ : ∃ y, near v m = y := ⟨_, rfl⟩
  have HY := Lib.hid hy
  rw [hy]
  clear h hy
  go_enter Tryz.func145, Tryz.ntmps145
  go_wp2_with fail
  refine K.out.mono ?_
  rintro e w2 ⟨rfl, g, hg, S, T, G⟩
  have HS := Lib.hid S
  have HT := Lib.hid T
  have HG := Lib.hid G
  have hs := G.size
  have d4 : w2.cell? ⟨b, 4, none⟩ = some (.slice (some ⟨g, 0, none⟩) (m + 1) (m + 1)) := blk_cell S 4
  have dg : w2.cell? ⟨g, v, none⟩ = some (.int .u8 y) := by
    obtain ⟨C, C1, C2, C3⟩ := T
    rw [blk_cell C1 v, C3 v (by omega), HY.out]
  clear S T G
  go_wp2
  go_ret2
  exact ⟨rfl, ⟨Nat.le_trans hB hs, .inr ⟨g, hg, HS.out, HT.out⟩⟩, HG.out⟩

theorem stp_ok {x : St} (h : x.Ok) (hr : x.r = 0) (hq : x.st + 1 ≤ x.s) : (stp x 1).Ok := by
  have := h.work 1
  rw [work_one hr hq] at this
  exact this
theorem spn_ok {x : St} (h : x.Ok) (hr : x.r = 0) (hq : x.s < x.st + 1) : (spent x).Ok := by
  have := h.work 1
  rw [work_none h hr hq] at this
  exact this

/-- The sample of z bytes at a place, one reading. -/
def rsV (s : ByteArray) (m z a : Nat) : SP :=
  if s.size < a + z then ⟨1, s.size, 0, 0, 1⟩
  else if m < numV true (s.extract a (a + z)) then ⟨2, a, 0, 0, 1⟩
  else ⟨0, 0, a + z, nearN (numV true (s.extract a (a + z))) m, 1⟩
theorem rs_n (s : ByteArray) (m z a : Nat) : (rsV s m z a).n = 1 := by
  unfold rsV
  split
  · rfl
  · split <;> rfl
theorem numV1 (b : Bool) (s : ByteArray) (p : Nat) (h : p < s.size) : Sr.numV b (s.extract p (p + 1)) = bt s p := by
  have hl : (s.extract p (p + 1)).data.toList = [s.data.toList.getD p 0] := by
    rw [Lib.extract_data]
    have h2 : p < s.data.toList.length := by rw [← Lib.size_eq]; exact h
    rw [show p + 1 - p = 1 from by omega]
    rw [List.getD_eq_getElem?_getD, List.getElem?_eq_getElem h2]
    rw [List.drop_eq_getElem_cons h2]
    rfl
  unfold Sr.numV
  rw [hl]
  cases b <;> simp [acc, ordd, bt]

/-- The samples' cells. -/
def sO (c : Nat) (wd : Bool) (sb : Nat) (n : Int) : Array Value := #[.pointer (some ⟨c, 0, none⟩), .bool wd, .pointer (some ⟨sb, 0, none⟩), .int .i64 n]
/-- A number of z bytes is read, or there is none. -/
def RZ (W : World) (c l : Nat) (s : ByteArray) (p z : Nat) (x : St) (e : Ending) (w' : World) : Prop :=
  Tn W w' [c, l] ∧ ((p + z ≤ s.size ∧ e = .returned (.tuple #[.int .i64 (numV true (s.extract p (p + z)) : Nat), .bool true]) ∧ Rd c l s (p + z) (stp x 1) w') ∨
    (∃ y, ((s.size < p + z ∧ y = stp x 1) ∨ (x.s < x.st + 1 ∧ y = spent x)) ∧ e = .returned (.tuple #[.int .i64 0, .bool false]) ∧ Rd c l s p y w'))
theorem be16_rz (c l : Nat) (s : ByteArray) (p : Nat) (x : St) (w : World) (h : Rd c l s p x w) (hr : x.r = 0) :
    Calls Tryz.prog 152 #[.pointer (some ⟨c, 0, none⟩)] w (RZ w c l s p 2 x) := by
  by_cases hk : x.st + 1 ≤ x.s
  · have hw := work_one hr hk
    have hok := stp_ok h.ok hr hk
    by_cases hp : p + 2 ≤ s.size
    · have hn : rdB x p s.size 2 = true := by
        unfold rdB
        rw [hw]
        simp [canB]
        omega
      refine (be16_yes c l s p 0 s.size x w h.so h.led h.ok hn).mono fun e w' ⟨he, ⟨S, L⟩, t⟩ => ⟨t, .inl ⟨hp, he, ⟨S, ?_, hok⟩⟩⟩
      rw [hw] at L
      exact L
    · have hn : rdB x p s.size 2 = false := by
        unfold rdB
        rw [hw]
        simp [canB]
        omega
      refine (be16_no c l s p 0 s.size x w h.so h.led h.ok hn).mono fun e w' ⟨he, ⟨S, L⟩, t⟩ => ⟨Tn.gb t (by simp), .inr ⟨_, .inl ⟨by omega, rfl⟩, he, ⟨S, ?_, hok⟩⟩⟩
      rw [hw] at L
      exact L
  · have hk' : x.s < x.st + 1 := by omega
    have hw := work_none h.ok hr hk'
    have hn : rdB x p s.size 2 = false := by
      unfold rdB
      rw [hw]
      rfl
    refine (be16_no c l s p 0 s.size x w h.so h.led h.ok hn).mono fun e w' ⟨he, ⟨S, L⟩, t⟩ => ⟨Tn.gb t (by simp), .inr ⟨_, .inr ⟨hk', rfl⟩, he, ⟨S, ?_, spn_ok h.ok hr hk'⟩⟩⟩
    rw [hw] at L
    exact L
theorem u8_rz (c l : Nat) (s : ByteArray) (p : Nat) (x : St) (w : World) (h : Rd c l s p x w) (hr : x.r = 0) :
    Calls Tryz.prog 81 #[.pointer (some ⟨c, 0, none⟩)] w (RZ w c l s p 1 x) := by
  by_cases hk : x.st + 1 ≤ x.s
  · by_cases hp : p < s.size
    · exact (u8_byte c l s p x w h hr hk hp).mono fun e w' ⟨he, R, t⟩ => ⟨t, .inl ⟨hp, by rw [he, numV1 true s p hp], R⟩⟩
    · exact (u8_over c l s p x w h hr hk (by omega)).mono fun e w' ⟨he, R, t⟩ => ⟨t, .inr ⟨_, .inl ⟨by omega, rfl⟩, he, R⟩⟩
  · have hk' : x.s < x.st + 1 := by omega
    exact (u8_spent c l s p x w h hr hk').mono fun e w' ⟨he, R, t⟩ => ⟨t, .inr ⟨_, .inr ⟨hk', rfl⟩, he, R⟩⟩

theorem sread_calls (c l : Nat) (s : ByteArray) (p m sb : Nat) (n : Int) (x : St) (W : World) (h : Rd c l s p x W) (hr : x.r = 0) :
    Calls Tryz.prog 144 #[.agg (sO c (decide (255 < m)) sb n)] W (RZ W c l s p (sz m) x) := by
  have g0 := World.grownBy_alloc W (.cells (sO c (decide (255 < m)) sb n) 167) none
  have R0 := h.grown g0
  have up : ∀ (z : Nat) (e : Ending) (w' : World), RZ (W.alloc (.cells (sO c (decide (255 < m)) sb n) 167)) c l s p z x e w' → RZ W c l s p z x e w' ∧ ∃ (v : Int) (b : Bool), e = .returned (.tuple #[.int .i64 v, .bool b]) := by
    rintro z e w' ⟨T, ⟨h1, he, R⟩ | ⟨y, h1, he, R⟩⟩
    · exact ⟨⟨(Tn.gb g0 (by simp)).trans T, .inl ⟨h1, he, R⟩⟩, _, _, he⟩
    · exact ⟨⟨(Tn.gb g0 (by simp)).trans T, .inr ⟨y, h1, he, R⟩⟩, _, _, he⟩
  by_cases hm : 255 < m
  · have K2 := (be16_rz c l s p x _ R0 hr).mono (fun e w' h => up 2 e w' h)
    rw [show sz m = 2 from if_pos hm]
    rw [decide_eq_true hm] at K2 ⊢
    unfold sO at K2 ⊢
    have K := Lib.hid K2
    clear K2 up R0 h g0
    go_enter Tryz.func144, Tryz.ntmps144
    go_wp2_with fail
    refine K.out.mono ?_
    rintro e w1 ⟨H, v, b, rfl⟩
    have HH := Lib.hid H
    clear H
    go_wp2
    go_ret2
    exact HH.out
  · have K2 := (u8_rz c l s p x _ R0 hr).mono (fun e w' h => up 1 e w' h)
    rw [show sz m = 1 from if_neg hm]
    rw [decide_eq_false hm] at K2 ⊢
    unfold sO at K2 ⊢
    have K := Lib.hid K2
    clear K2 up R0 h g0
    go_enter Tryz.func144, Tryz.ntmps144
    go_wp2_with fail
    refine K.out.mono ?_
    rintro e w1 ⟨H, v, b, rfl⟩
    have HH := Lib.hid H
    clear H
    go_wp2
    go_ret2
    exact HH.out

end Go.Proofs.YtcfdippcobkbaaaGreat.Px

/- Raw samples: the next one, as eight bits. -/
namespace Go.Proofs.YtcfdippcobkbaaaGreat.Px
open Go.ChangeShapes Go.WideShapes Go.ChangeAt Go.RowKit
open Go.Proofs.YtcfdippcobkbaaaGreat.Le Go.Proofs.YtcfdippcobkbaaaGreat.Tk Go.Proofs.YtcfdippcobkbaaaGreat.Sc Go.Proofs.YtcfdippcobkbaaaGreat.Sr Go.Proofs.YtcfdippcobkbaaaGreat.Ph
set_option linter.unusedVariables false

theorem Sq.off {B b m k : Nat} {C : Array Value} {t : TypeId} {fr : Nat × Nat} {w w' : World} (h : Sq B b m w) (T : Tn w w' [k]) (hb : b ≠ k) (hk : w.heap[k]? = some (.cells C t fr)) (ht : t ≠ 5) : Sq B b m w' := by
  obtain ⟨hB, h | ⟨g, hg, h, D, D1, D2, D3⟩⟩ := h
  · exact ⟨Nat.le_trans hB T.size, .inl ((T.block b h.lt (by simpa using hb)).trans h)⟩
  · refine ⟨Nat.le_trans hB T.size, .inr ⟨g, hg, (T.block b h.lt (by simpa using hb)).trans h, D, (T.block g (blk_lt D1) (fun e => ?_)).trans D1, D2, D3⟩⟩
    rw [List.mem_singleton] at e
    subst e
    rw [D1] at hk
    cases hk
    exact ht rfl

/-- Behind a raw sample. -/
def QR (W : World) (B c l sb m : Nat) (s : ByteArray) (x : St) (o : SP) (e : Ending) (w' : World) : Prop :=
  Tn W w' [c, l, sb] ∧ ((o.f = 0 ∧ o.v ≤ 255 ∧ e = .returned (.tuple #[.int .u8 (o.v : Int), okF]) ∧ Rd c l s o.a (stp x o.n) w' ∧ Sq B sb m w') ∨
    (∃ (k g a : Int) (q : Nat) (y : St), BD s x o.f o.p o.n k g a q y ∧ e = .returned (.tuple #[.int .u8 0, .agg #[.int .i64 k, .int .i64 g, .int .i64 a]]) ∧ Rd c l s q y w'))

/-- The samples in block b. -/
structure SR (W : World) (c l sb : Nat) (wd : Bool) (n : Int) (b : Nat) (w : World) : Prop where
  bx : w.heap[b]? = some (.cells (sO c wd sb n) 167 (0, 0))
  tn : Tn W w [c, l, sb]
  wb : W.heap.size = b
  cb : c < b
  lb : l < b
  sbb : sb < b
section
variable {W : World} {c l sb : Nat} {wd : Bool} {n : Int} {b : Nat} {w w' : World}
theorem SR.turned (h : SR W c l sb wd n b w) (t : Tn w w' [c, l, sb]) : SR W c l sb wd n b w' := by
  have h1 := h.cb
  have h2 := h.lb
  have h3 := h.sbb
  exact ⟨(t.block b (blk_lt h.bx) (by simp; omega)).trans h.bx, h.tn.trans t, h.wb, h1, h2, h3⟩
theorem SR.gb (h : SR W c l sb wd n b w) (g : w.grownBy w' none) : SR W c l sb wd n b w' := h.turned (Tn.gb g (by simp))
theorem SR.al (h : SR W c l sb wd n b w) (o : Obj) : SR W c l sb wd n b (w.alloc o) := h.gb (World.grownBy_alloc w o none)
theorem SR.lt (h : SR W c l sb wd n b w) : b < w.heap.size := blk_lt h.bx
theorem SR.c0 (h : SR W c l sb wd n b w) : w.cell? ⟨b, 0, none⟩ = some (.pointer (some ⟨c, 0, none⟩)) := blk_cell h.bx 0
theorem SR.c1 (h : SR W c l sb wd n b w) : w.cell? ⟨b, 1, none⟩ = some (.bool wd) := blk_cell h.bx 1
theorem SR.c2 (h : SR W c l sb wd n b w) : w.cell? ⟨b, 2, none⟩ = some (.pointer (some ⟨sb, 0, none⟩)) := blk_cell h.bx 2
theorem SR.c3 (h : SR W c l sb wd n b w) : w.cell? ⟨b, 3, none⟩ = some (.int .i64 n) := blk_cell h.bx 3
end
/-- What two and one calls may turn. -/
theorem tn2 {c l sb : Nat} {w w' : World} (t : Tn w w' [c, l]) : Tn w w' [c, l, sb] := t.mono (by simp)
theorem tnS {c l sb : Nat} {w w' : World} (t : w.grownBy w' (some sb)) : Tn w w' [c, l, sb] := Tn.gb t (by simp)

set_option maxRecDepth 100000 in
set_option maxHeartbeats 4000000 in
theorem rnext_calls (B c l sb : Nat) (s : ByteArray) (p m : Nat) (n : Int) (x : St) (W : World) (h : Rd c l s p x W) (hr : x.r = 0) (hm : 1 ≤ m ∧ m ≤ 65535) (hq : Sq B sb m W) (cB : c < B) (lB : l < B) (cs : c ≠ sb) (ls : l ≠ sb) :
    Calls Tryz.prog 131 #[.agg (sO c (decide (255 < m)) sb n)] W (QR W B c l sb m s x (rsV s m (sz m) p)) := by
  obtain ⟨o, ho⟩ : ∃ o, rsV s m (sz m) p = o := ⟨_, rfl⟩
  rw [ho]
  have hon : o.n = 1 := by rw [← ho]; exact rs_n _ _ _ _
  have hcw := h.clt
  have hlw := h.llt
  have hsw := hq.lt
  obtain ⟨wd, hwd⟩ : ∃ wd, decide (255 < m) = wd := ⟨_, rfl⟩
  have X0 : SR W c l sb wd n W.heap.size ((W.alloc (.cells (sO c wd sb n) 167)).alloc (.cells #[.int .i64 0, .int .i64 0, .int .i64 0] 34)) :=
    SR.al ⟨blk_at, Tn.gb (World.grownBy_alloc _ _ none) (by simp), rfl, hcw, hlw, hsw⟩ _
  have F0 : Fl (W.heap.size + 1) 0 0 0 ((W.alloc (.cells (sO c wd sb n) 167)).alloc (.cells #[.int .i64 0, .int .i64 0, .int .i64 0] 34)) := by
    rw [← size_alloc W (.cells (sO c wd sb n) 167)]
    exact Fl.new _
  have g0 := gb_trans (World.grownBy_alloc W (.cells (sO c wd sb n) 167) none) (World.grownBy_alloc _ (.cells #[.int .i64 0, .int .i64 0, .int .i64 0] 34) none)
  have R0 := h.grown g0
  have q0 := hq.turned (Tn.gb g0 (S := []) (by simp)) (by simp) (by simp)
  have KR := fun u (R : Rd c l s p x u) => sread_calls c l s p m sb n x u R hr
  rw [hwd] at KR
  rw [hwd]
  unfold sO at X0 F0 R0 q0 KR
  have HX0 := Lib.hid X0
  have HF0 := Lib.hid F0
  have HR0 := Lib.hid R0
  have HQ0 := Lib.hid q0
  have KR := Lib.hid KR
  have HO := Lib.hid ho
  have HON := Lib.hid hon
  have HR := Lib.hid hr
  have KA := Lib.hid (fun u (R : Rd c l s p x u) => at_rd c l s p x u R)
  have KX := Lib.hid (fun u => xmal_calls (p : Int) u)
  have HCB : W.heap.size + 1 ∉ [c, l, sb] := by simp; omega
  have HKC : W.heap.size + 1 ≠ c := by omega
  have HKL : W.heap.size + 1 ≠ l := by omega
  have HKS : W.heap.size + 1 ≠ sb := by omega
  have hps := h.so.pt
  have SBC : sb ∉ [c, l] := by simp; exact ⟨fun e => cs e.symm, fun e => ls e.symm⟩
  clear X0 F0 R0 q0 g0 h hq ho hon hr hcw hlw hsw hwd
  unfold sO
  go_enter Tryz.func131, Tryz.ntmps131
  go_wp2_with fail
  generalize (W.alloc (.cells #[.pointer (some ⟨c, 0, none⟩), .bool wd, .pointer (some ⟨sb, 0, none⟩), .int .i64 n] 167)).alloc (.cells #[.int .i64 0, .int .i64 0, .int .i64 0] 34) = w0 at HX0 HF0 HR0 HQ0 ⊢
  have c0 := HX0.out.c0
  have c1 := HX0.out.c1
  have c2 := HX0.out.c2
  have c3 := HX0.out.c3
  go_wp2_with fail
  refine (KA.out _ HR0.out).mono ?_
  rintro e w' ⟨rfl, rfl⟩
  go_wp2_with fail
  refine (KR.out _ HR0.out).mono ?_
  rintro e w1 ⟨T1, ⟨hin, rfl, R1⟩ | ⟨y, hy, rfl, R1⟩⟩
  · have X1 := HX0.out.turned (tn2 T1)
    have F1 := HF0.out.turned (tn2 T1) HCB
    have Q1 := HQ0.out.turned T1 SBC (by simp; exact ⟨cB, lB⟩)
    obtain ⟨v, hv⟩ : ∃ v, numV true (s.extract p (p + sz m)) = v := ⟨_, rfl⟩
    rw [hv]
    clear c0 c1 c2 c3
    have c2 := X1.c2
    by_cases hbig : m < v
    · have KO := Lib.hid (sq_no B sb m (v : Int) w1 Q1 (.inr (by omega)))
      have hov : o = ⟨2, p, 0, 0, 1⟩ := by
        rw [← HO.out]
        unfold rsV
        rw [if_neg (by omega), hv, if_pos hbig]
      have HOV := Lib.hid hov
      have HX1 := Lib.hid X1
      have HF1 := Lib.hid F1
      have HR1 := Lib.hid R1
      clear X1 F1 Q1 R1 T1 hv hbig hov
      go_wp2_with fail
      refine KO.out.mono ?_
      rintro e w' ⟨rfl, rfl⟩
      go_wp2_with fail
      refine (KX.out _).mono ?_
      rintro e w2 ⟨rfl, g2⟩
      have F2 := HF1.out.turned (Tn.gb g2 (S := [c, l]) (by simp)) (by simp; exact ⟨HKC, HKL⟩)
      have r0 := F2.c0
      have r1 := F2.c1
      have r2 := F2.c2
      have f0 := F2.free 0
      have f1 := F2.free 1
      have f2 := F2.free 2
      have HX2 := Lib.hid (HX1.out.gb g2)
      have HR2 := Lib.hid (HR1.out.grown g2)
      clear F2 g2 c2
      go_wp2
      refine bodyPost_ret (v := .tuple #[.int .u8 0, .agg #[.int .i64 2, .int .i64 3, .int .i64 p]]) (by simp only [results, Tryz.results131]; go_simp) rfl ?_
      refine ⟨Tn.owns3 HX2.out.tn (Nat.le_succ _), .inr ⟨2, 3, p, p + sz m, _, ⟨hin, .inl ⟨?_, ?_, rfl, ?_, ?_⟩⟩, rfl, HR2.out.st3 HKC HKL⟩⟩
      all_goals rw [HOV.out]
      · show (2 : Nat) ≠ 0
        decide
      · rfl
    · have KO := sq_yes B sb m v w1 Q1 hm.1 hm.2 (by omega)
      have hn := nearN_is hm.1 (by omega : v ≤ m)
      have hle := nearN_le hm.1 (by omega : v ≤ m)
      rw [← hn] at KO
      have hov : o = ⟨0, 0, p + sz m, nearN v m, 1⟩ := by
        rw [← HO.out]
        unfold rsV
        rw [if_neg (by omega), hv, if_neg hbig]
      obtain ⟨z, hz⟩ : ∃ z, nearN v m = z := ⟨_, rfl⟩
      rw [hz] at KO hov hle
      have HOV := Lib.hid hov
      have HX1 := Lib.hid X1
      have HF1 := Lib.hid F1
      have HR1 := Lib.hid R1
      have HLE := Lib.hid hle
      have KO := Lib.hid KO
      clear X1 F1 Q1 R1 T1 hv hbig hov hz hn hle
      go_wp2_with fail
      refine KO.out.mono ?_
      rintro e w2 ⟨rfl, Q2, g2⟩
      have F2 := HF1.out.turned (tnS g2) HCB
      have r0 := F2.c0
      have r1 := F2.c1
      have r2 := F2.c2
      have f0 := F2.free 0
      have f1 := F2.free 1
      have f2 := F2.free 2
      have HX2 := Lib.hid (HX1.out.turned (tnS g2))
      have HR2 := Lib.hid (Rd.mk (HR1.out.so.turned (Tn.gb g2 (S := [sb]) (by simp)) (by simpa using cs)) (HR1.out.led.turned (Tn.gb g2 (S := [sb]) (by simp)) (by simpa using ls)) HR1.out.ok)
      have HQ2 := Lib.hid Q2
      have HF2 := Lib.hid F2
      clear F2 g2 c2 Q2
      go_wp2
      refine bodyPost_ret (v := .tuple #[.int .u8 z, okF]) (by simp only [results, Tryz.results131, okF]; go_simp) rfl ?_
      rw [HOV.out]
      refine ⟨Tn.owns3 HX2.out.tn (Nat.le_succ _), .inl ⟨rfl, HLE.out, rfl, HR2.out.st3 HKC HKL, ?_⟩⟩
      exact HQ2.out.off ((((Tn.refl _ _).st (by simp)).st (by simp)).st (by simp)) HKS.symm HF2.out (by decide)
  · have X1 := HX0.out.turned (tn2 T1)
    have F1 := HF0.out.turned (tn2 T1) HCB
    clear c0 c1 c2 c3
    have c0 := X1.c0
    have HX1 := Lib.hid X1
    have HF1 := Lib.hid F1
    have KF : Calls Tryz.prog 82 #[.pointer (some ⟨c, 0, none⟩), .int .i64 3] w1 fun e w' => ∃ k a : Int, e = .returned (.agg #[.int .i64 k, .int .i64 3, .int .i64 a]) ∧ BD s x o.f o.p o.n k 3 a p y ∧ Rd c l s p y w' ∧ w1.grownBy w' none := by
      rcases hy with ⟨h1, rfl⟩ | ⟨h1, rfl⟩
      · have hov : o = ⟨1, s.size, 0, 0, 1⟩ := by
          rw [← HO.out]
          unfold rsV
          rw [if_pos h1]
        rw [hov]
        exact (fault_end c l s p _ 3 w1 R1 HR.out).mono fun e w' ⟨he, R, g⟩ => ⟨1, s.size, he, ⟨hps, .inl ⟨Nat.one_ne_zero, rfl, rfl, rfl, rfl⟩⟩, R, g⟩
      · rw [HON.out]
        exact (fault_spent c l s p x 3 w1 R1).mono fun e w' ⟨he, R, g⟩ => ⟨4, p, he, ⟨hps, .inr ⟨h1, rfl, rfl, rfl, rfl⟩⟩, R, g⟩
    have KF := Lib.hid KF
    clear X1 F1 R1 T1 hy
    go_wp2_with fail
    refine KF.out.mono ?_
    rintro e w2 ⟨k, a, rfl, bd, R2, g2⟩
    have F2 := HF1.out.turned (Tn.gb g2 (S := [c, l]) (by simp)) (by simp; exact ⟨HKC, HKL⟩)
    have r0 := F2.c0
    have r1 := F2.c1
    have r2 := F2.c2
    have f0 := F2.free 0
    have f1 := F2.free 1
    have f2 := F2.free 2
    have HX2 := Lib.hid (HX1.out.gb g2)
    have HR2 := Lib.hid R2
    have HBD := Lib.hid bd
    clear F2 g2 c0 R2 bd
    go_wp2
    refine bodyPost_ret (v := .tuple #[.int .u8 0, .agg #[.int .i64 k, .int .i64 3, .int .i64 a]]) (by simp only [results, Tryz.results131]; go_simp) rfl ?_
    exact ⟨Tn.owns3 HX2.out.tn (Nat.le_succ _), .inr ⟨k, 3, a, p, y, HBD.out, rfl, HR2.out.st3 HKC HKL⟩⟩

end Go.Proofs.YtcfdippcobkbaaaGreat.Px

/- Raw pixels: of one sample, of three. -/
namespace Go.Proofs.YtcfdippcobkbaaaGreat.Px
open Go.ChangeShapes Go.WideShapes Go.ChangeAt Go.RowKit
open Go.Proofs.YtcfdippcobkbaaaGreat.Le Go.Proofs.YtcfdippcobkbaaaGreat.Tk Go.Proofs.YtcfdippcobkbaaaGreat.Sc Go.Proofs.YtcfdippcobkbaaaGreat.Sr Go.Proofs.YtcfdippcobkbaaaGreat.Ph
set_option linter.unusedVariables false

def srs (s : ByteArray) (m z a : Nat) : Nat → SS
  | 0 => ⟨0, 0, a, [], 0⟩
  | i + 1 => (srs s m z a i).step (rsV s m z (srs s m z a i).a)
theorem srs_succ (s : ByteArray) (m z a i : Nat) : srs s m z a (i + 1) = (srs s m z a i).step (rsV s m z (srs s m z a i).a) := rfl
theorem srs_stay (s : ByteArray) (m z a : Nat) {i : Nat} (h : (srs s m z a i).f ≠ 0) : ∀ j, i ≤ j → srs s m z a j = srs s m z a i := by
  intro j hj
  induction j with
  | zero =>
    obtain rfl : i = 0 := by omega
    rfl
  | succ j ih =>
    by_cases hij : i = j + 1
    · subst hij
      rfl
    · have e := ih (by omega)
      show (srs s m z a j).step _ = _
      rw [ss_stay (by rw [e]; exact h), e]
theorem srs_n (s : ByteArray) (m z a : Nat) : ∀ i j, i ≤ j → (srs s m z a i).n ≤ (srs s m z a j).n := by
  intro i j hij
  induction j with
  | zero =>
    obtain rfl : i = 0 := by omega
    exact Nat.le_refl _
  | succ j ih =>
    by_cases h : i = j + 1
    · subst h
      exact Nat.le_refl _
    · refine Nat.le_trans (ih (by omega)) ?_
      rw [srs_succ]
      unfold SS.step
      split
      · exact Nat.le_refl _
      · split
        · exact Nat.le_add_right _ _
        · exact Nat.le_add_right _ _
/-- A raw pixel of n samples of z bytes. -/
def rpV (s : ByteArray) (m z n a : Nat) : PX :=
  ⟨(srs s m z a n).f, (srs s m z a n).p, (srs s m z a n).a, (srs s m z a n).vs.getD 0 0, (srs s m z a n).vs.getD (if n = 3 then 1 else 0) 0, (srs s m z a n).vs.getD (if n = 3 then 2 else 0) 0, (srs s m z a n).n⟩
theorem srs_bad {s : ByteArray} {x : St} {m zz n a i : Nat} {z : SS} {o : SP} {k g b : Int} {q : Nat} {y : St} (hz : srs s m zz a i = z) (ho : rsV s m zz z.a = o) (h0 : z.f = 0) (hi : i < n) (h : BD s (stp x z.n) o.f o.p o.n k g b q y) :
    BD s x (rpV s m zz n a).f (rpV s m zz n a).p (rpV s m zz n a).n k g b q y := by
  have e1 : srs s m zz a (i + 1) = z.step o := by rw [srs_succ, hz, ho]
  refine h.lift (fun hf => ?_) ?_
  · rw [ss_fault h0 hf] at e1
    have e2 := srs_stay s m zz a (i := i + 1) (by rw [e1]; exact hf) n (by omega)
    unfold rpV
    rw [e2, e1]
    exact ⟨rfl, rfl, rfl⟩
  · have h2 := srs_n s m zz a (i + 1) n (by omega)
    rw [e1] at h2
    show _ ≤ (srs s m zz a n).n
    by_cases hf : o.f = 0
    · rw [ss_yes h0 hf] at h2
      exact h2
    · rw [ss_fault h0 hf] at h2
      exact h2

/-- A reader's call: the samples in block b, the results in the two behind it. -/
structure SZ (W : World) (c l sb : Nat) (wd : Bool) (n : Int) (b : Nat) (w : World) : Prop where
  sx : SR W c l sb wd n b w
  co : Co (b + 1) 0 0 0 0 w
  fl : Fl (b + 1 + 1) 0 0 0 w
section
variable {W : World} {c l sb : Nat} {wd : Bool} {n : Int} {b : Nat} {w w' : World}
theorem SZ.turned (h : SZ W c l sb wd n b w) (t : Tn w w' [c, l, sb]) : SZ W c l sb wd n b w' := by
  have h1 := h.sx.cb
  have h2 := h.sx.lb
  have h3 := h.sx.sbb
  exact ⟨h.sx.turned t, h.co.turned t (by simp; omega), h.fl.turned t (by simp; omega)⟩
theorem SZ.gb (h : SZ W c l sb wd n b w) (g : w.grownBy w' none) : SZ W c l sb wd n b w' := h.turned (Tn.gb g (by simp))
theorem SZ.al (h : SZ W c l sb wd n b w) (o : Obj) : SZ W c l sb wd n b (w.alloc o) := h.gb (World.grownBy_alloc _ _ _)
theorem SZ.st {k i : Nat} {v : Value} (h : SZ W c l sb wd n b w) (hk : b + 1 + 1 < k) : SZ W c l sb wd n b (w.setCell ⟨k, i, none⟩ v) :=
  ⟨⟨blk_other h.sx.bx (by omega), Tn.own1 h.sx.tn (by have := h.sx.wb; omega), h.sx.wb, h.sx.cb, h.sx.lb, h.sx.sbb⟩, blk_other h.co (by omega), blk_other h.fl (by omega)⟩
theorem SZ.new (W : World) (c l sb : Nat) (wd : Bool) (n : Int) (hc : c < W.heap.size) (hl : l < W.heap.size) (hs : sb < W.heap.size) : SZ W c l sb wd n W.heap.size (((W.alloc (.cells (sO c wd sb n) 167)).alloc (cO 0 0 0 0)).alloc (fO 0 0 0)) := by
  refine ⟨SR.al (SR.al ⟨blk_at, Tn.gb (World.grownBy_alloc _ _ none) (by simp), rfl, hc, hl, hs⟩ _) _, Co.al ?_ _, ?_⟩
  · rw [← size_alloc W (.cells (sO c wd sb n) 167)]
    exact blk_at
  · rw [← size_alloc W (.cells (sO c wd sb n) 167), ← size_alloc (W.alloc (.cells (sO c wd sb n) 167)) (cO 0 0 0 0)]
    exact Fl.new _
end

set_option maxRecDepth 100000 in
set_option maxHeartbeats 8000000 in
theorem rpix_calls (B c l sb : Nat) (s : ByteArray) (p m n : Nat) (x : St) (ix : Int) (W : World) (h : Rd c l s p x W) (hr : x.r = 0) (hm : 1 ≤ m ∧ m ≤ 65535) (hn : n = 1 ∨ n = 3) (hq : Sq B sb m W) (cB : c < B) (lB : l < B) (sB : sb < B) (cs : c ≠ sb) (ls : l ≠ sb) :
    Calls Tryz.prog 104 #[.agg (sO c (decide (255 < m)) sb (n : Int)), .int .i64 ix] W (NP W [c, l, sb] c l s x (rpV s m (sz m) n p) (fun w' => Sq B sb m w')) := by
  have hcw := h.clt
  have hlw := h.llt
  have hsw := hq.lt
  obtain ⟨zz, hzz⟩ : ∃ zz, sz m = zz := ⟨_, rfl⟩
  have KN0 := fun (q : Nat) (y : St) (u : World) (R : Rd c l s q y u) (hy : y.r = 0) (hq : Sq B sb m u) => rnext_calls B c l sb s q m (n : Int) y u R hy hm hq cB lB cs ls
  rw [hzz] at KN0
  rw [hzz]
  obtain ⟨wd, hwd⟩ : ∃ wd, decide (255 < m) = wd := ⟨_, rfl⟩
  rw [hwd] at KN0
  rw [hwd]
  have Y00 := SZ.new W c l sb wd (n : Int) hcw hlw hsw
  have Y0 := Y00.al (.cells #[.int .u8 0, .int .u8 0, .int .u8 0] 179)
  have V0 : Ab (W.heap.size + 1 + 1 + 1) [] ((((W.alloc (.cells (sO c wd sb (n : Int)) 167)).alloc (cO 0 0 0 0)).alloc (fO 0 0 0)).alloc (.cells #[.int .u8 0, .int .u8 0, .int .u8 0] 179)) := by
    rw [← size_alloc W (.cells (sO c wd sb (n : Int)) 167), ← size_alloc (W.alloc (.cells (sO c wd sb (n : Int)) 167)) (cO 0 0 0 0), ← size_alloc ((W.alloc (.cells (sO c wd sb (n : Int)) 167)).alloc (cO 0 0 0 0)) (fO 0 0 0)]
    exact blk_at
  have g0 := gb_trans (gb_trans (gb_trans (World.grownBy_alloc W (.cells (sO c wd sb (n : Int)) 167) none) (World.grownBy_alloc _ (cO 0 0 0 0) none)) (World.grownBy_alloc _ (fO 0 0 0) none)) (World.grownBy_alloc _ (.cells #[.int .u8 0, .int .u8 0, .int .u8 0] 179) none)
  have R0 := h.grown g0
  have Q0 := hq.turned (Tn.gb g0 (S := []) (by simp)) (by simp) (by simp)
  have hps := h.so.pt
  unfold sO at KN0
  unfold cO fO sO at Y0 V0 R0 Q0
  have HY0 := Lib.hid Y0
  have HV0 := Lib.hid V0
  have HR0 := Lib.hid R0
  have HQ0 := Lib.hid Q0
  have HKN := Lib.hid KN0
  have HKC : W.heap.size + 1 ≠ c := by omega
  have HKL : W.heap.size + 1 ≠ l := by omega
  have HKS : W.heap.size + 1 ≠ sb := by omega
  have HJC : W.heap.size + 1 + 1 ≠ c := by omega
  have HJL : W.heap.size + 1 + 1 ≠ l := by omega
  have HJS : W.heap.size + 1 + 1 ≠ sb := by omega
  have HVC : W.heap.size + 1 + 1 + 1 ∉ [c, l, sb] := by simp; omega
  have HVS : sb ≠ W.heap.size + 1 + 1 + 1 := by omega
  obtain ⟨Q, hQ⟩ : ∃ Q, NP W [c, l, sb] c l s x (rpV s m zz n p) (fun w' => Sq B sb m w') = Q := ⟨_, rfl⟩
  rw [hQ]
  have HQ := Lib.hid hQ
  have HN := Lib.hid hn
  clear Y00 Y0 V0 g0 R0 Q0 h hq hcw hlw hsw hQ KN0 hzz hwd hn
  unfold sO
  go_enter Tryz.func104, Tryz.ntmps104
  go_wp2_with fail
  generalize (((W.alloc (.cells #[.pointer (some ⟨c, 0, none⟩), .bool wd, .pointer (some ⟨sb, 0, none⟩), .int .i64 (n : Int)] 167)).alloc (.cells #[.int .u8 0, .int .u8 0, .int .u8 0, .int .u8 0] 60)).alloc (.cells #[.int .i64 0, .int .i64 0, .int .i64 0] 34)).alloc (.cells #[.int .u8 0, .int .u8 0, .int .u8 0] 179) = w0 at HY0 HV0 HR0 HQ0 ⊢
  have c3 := HY0.out.sx.c3
  go_wp2_with fail
  clear c3
  go_loopg [11] n (fun q iv wr => ∃ i : Nat, i ≤ n ∧ q = n - i ∧ iv = .int .i64 i ∧ (srs s m zz p i).f = 0 ∧ (srs s m zz p i).vs.length = i ∧ (∀ v ∈ (srs s m zz p i).vs, v ≤ 255) ∧
    Rd c l s (srs s m zz p i).a (stp x (srs s m zz p i).n) wr ∧ SZ W c l sb wd n W.heap.size wr ∧ Ab (W.heap.size + 1 + 1 + 1) (srs s m zz p i).vs wr ∧ Sq B sb m wr)
  case atStart => exact ⟨0, Nat.zero_le _, rfl, rfl, rfl, rfl, (fun v hv => by cases hv), by show Rd c l s p (stp x 0) w0; rw [stp_0]; exact HR0.out, HY0.out, HV0.out, HQ0.out⟩
  case round =>
    obtain ⟨i, hi3, rfl, rfl, hf, hlen, hle, R, Y, V, SQ⟩ := hrel
    obtain ⟨z, hz⟩ : ∃ z, srs s m zz p i = z := ⟨_, rfl⟩
    rw [hz] at hf hlen hle R V
    clear HY0 HV0 HR0 HQ0
    have hn3 : n ≤ 3 := by rcases HN.out with h | h <;> omega
    by_cases hi : i < n
    · have d0 : decide ((i : Int) < (n : Int)) = true := decide_eq_true (by omega)
      have Yf := Y.al (.cells #[.int .i64 0, .int .i64 0, .int .i64 0] 34)
      have Vf := V.al (.cells #[.int .i64 0, .int .i64 0, .int .i64 0] 34)
      have Ff : Fl wr.heap.size 0 0 0 (wr.alloc (.cells #[.int .i64 0, .int .i64 0, .int .i64 0] 34)) := blk_at
      have Qf := SQ.turned (Tn.gb (World.grownBy_alloc wr (.cells #[.int .i64 0, .int .i64 0, .int .i64 0] 34) none) (S := []) (by simp)) (by simp) (by simp)
      obtain ⟨o, ho⟩ : ∃ o, rsV s m zz z.a = o := ⟨_, rfl⟩
      have KN1 := HKN.out z.a (stp x z.n) _ (R.grown (World.grownBy_alloc wr (.cells #[.int .i64 0, .int .i64 0, .int .i64 0] 34) none)) hr Qf
      rw [ho] at KN1
      have KN := Lib.hid KN1
      have c0 := Yf.sx.c0
      have c1 := Yf.sx.c1
      have c2 := Yf.sx.c2
      have c3 := Yf.sx.c3
      have ylt := Y.fl.lt
      have vlt := blk_lt V
      have HYf := Lib.hid Yf
      have HVf := Lib.hid Vf
      have HFf := Lib.hid Ff
      have HFC : wr.heap.size ∉ [c, l, sb] := by have := Y.sx.cb; have := Y.sx.lb; have := Y.sx.sbb; simp; omega
      have HFS : sb ≠ wr.heap.size := by have := Y.sx.sbb; omega
      have HZ := Lib.hid hz
      have HO := Lib.hid ho
      have HF := Lib.hid hf
      have HLEN := Lib.hid hlen
      have HLE := Lib.hid hle
      clear R Y V Yf Vf Ff Qf SQ KN1 hz ho hf hlen hle
      go_wp2_with fail
      refine KN.out.mono ?_
      rintro e w1 ⟨T1, ⟨of, ov, rfl, R1, Q1⟩ | ⟨k, fm, a, q, y, bd, rfl, R1⟩⟩
      · have hs1 : srs s m zz p (i + 1) = ⟨0, 0, o.a, z.vs ++ [o.v], z.n + o.n⟩ := by
          rw [srs_succ, HZ.out, HO.out]
          exact ss_yes HF.out of
        have Y1 := HYf.out.turned T1
        have V1 := HVf.out.turned T1 HVC
        have F1 := HFf.out.turned T1 HFC
        obtain ⟨yv, hyv⟩ := av_at z.vs i (by omega)
        have va : w1.cell? ⟨W.heap.size + 1 + 1 + 1, i, none⟩ = some (.int .u8 (yv : Int)) := (blk_cell V1 i).trans hyv
        have vf : w1.frozen? ⟨W.heap.size + 1 + 1 + 1, i, none⟩ = false := blk_free V1 i
        have i3 : i < 3 := by omega
        have q0 := F1.c0
        have q1 := F1.c1
        have q2 := F1.c2
        have p0 := F1.free 0
        have p1 := F1.free 1
        have p2 := F1.free 2
        have n1 : ¬ wr.heap.size = W.heap.size + 1 + 1 + 1 := by omega
        have n2 : ¬ W.heap.size + 1 + 1 + 1 = wr.heap.size := by omega
        have V2 := ((((V1.set (v := o.v) (by rw [HLEN.out]; exact i3)).oth (c := wr.heap.size) (o := 0) (v := .int .i64 0) n2).oth (c := wr.heap.size) (o := 1) (v := .int .i64 0) n2).oth (c := wr.heap.size) (o := 2) (v := .int .i64 0) n2)
        rw [HLEN.out] at V2
        have Y2 := (((Y1.st (i := i) (v := .int .u8 (o.v : Int)) (k := W.heap.size + 1 + 1 + 1) (by omega)).st (i := 0) (v := .int .i64 0) (k := wr.heap.size) (by omega)).st (i := 1) (v := .int .i64 0) (k := wr.heap.size) (by omega)).st (i := 2) (v := .int .i64 0) (k := wr.heap.size) (by omega)
        have hyb := Y1.sx.cb
        have hyl := Y1.sx.lb
        have R2 := (R1.st (k := W.heap.size + 1 + 1 + 1) (i := i) (v := .int .u8 (o.v : Int)) (by omega) (by omega)).st3 (k := wr.heap.size) (v0 := .int .i64 0) (v1 := .int .i64 0) (v2 := .int .i64 0) (by omega) (by omega)
        rw [stp_stp] at R2
        have Q2 := (Q1.off (Tn.set w1 (W.heap.size + 1 + 1 + 1) i (.int .u8 (o.v : Int)) (S := [W.heap.size + 1 + 1 + 1]) (by simp)) HVS V1 (by decide)).off (w' := (((w1.setCell ⟨W.heap.size + 1 + 1 + 1, i, none⟩ (.int .u8 (o.v : Int))).setCell ⟨wr.heap.size, 0, none⟩ (.int .i64 0)).setCell ⟨wr.heap.size, 1, none⟩ (.int .i64 0)).setCell ⟨wr.heap.size, 2, none⟩ (.int .i64 0)) ((((Tn.refl _ _).st (by simp)).st (by simp)).st (by simp)) HFS (Ph.Fl.oth F1 (k' := W.heap.size + 1 + 1 + 1) (o := i) (v := .int .u8 (o.v : Int)) n1) (by decide)
        have HV2 := Lib.hid V2
        have HY2 := Lib.hid Y2
        have HR2 := Lib.hid R2
        have HQ2 := Lib.hid Q2
        have HS1 := Lib.hid hs1
        have HOV := Lib.hid ov
        clear V1 V2 Y1 Y2 F1 R1 R2 T1 hs1 ov of hyv c0 c1 c2 hyb hyl Q1 Q2
        simp only [okF]
        go_wp2
        go_roundg (n - (i + 1))
        case measure => omega
        case rel =>
          refine ⟨i + 1, by omega, rfl, by go_num, ?_⟩
          rw [HS1.out]
          refine ⟨rfl, ?_, ?_, HR2.out, HY2.out, HV2.out, HQ2.out⟩
          · show (z.vs ++ [o.v]).length = i + 1
            rw [List.length_append, HLEN.out]
            rfl
          · intro v hv
            rcases List.mem_append.1 hv with h | h
            · exact HLE.out v h
            · rw [List.mem_singleton] at h
              subst h
              exact HOV.out
      · have hk := bd.kne
        have d1 : (k != 0) = true := by rw [bne_iff_ne]; exact hk
        have Y1 := HYf.out.turned T1
        have V1 := HVf.out.turned T1 HVC
        have F1 := HFf.out.turned T1 HFC
        obtain ⟨yv, hyv⟩ := av_at z.vs i (by omega)
        have va : w1.cell? ⟨W.heap.size + 1 + 1 + 1, i, none⟩ = some (.int .u8 (yv : Int)) := (blk_cell V1 i).trans hyv
        have vf : w1.frozen? ⟨W.heap.size + 1 + 1 + 1, i, none⟩ = false := blk_free V1 i
        have i3 : i < 3 := by omega
        have q0 := F1.c0
        have q1 := F1.c1
        have q2 := F1.c2
        have p0 := F1.free 0
        have p1 := F1.free 1
        have p2 := F1.free 2
        have n1 : ¬ wr.heap.size = W.heap.size + 1 + 1 + 1 := by omega
        have n2 : ¬ W.heap.size + 1 + 1 + 1 = wr.heap.size := by omega
        have Y2 := (((Y1.st (i := i) (v := .int .u8 0) (k := W.heap.size + 1 + 1 + 1) (by omega)).st (i := 0) (v := .int .i64 k) (k := wr.heap.size) (by omega)).st (i := 1) (v := .int .i64 fm) (k := wr.heap.size) (by omega)).st (i := 2) (v := .int .i64 a) (k := wr.heap.size) (by omega)
        have G2 := (Ph.Fl.oth F1 (k' := W.heap.size + 1 + 1 + 1) (o := i) (v := .int .u8 0) n1).set k fm a
        have hyb := Y1.sx.cb
        have hyl := Y1.sx.lb
        have R2 := (R1.st (k := W.heap.size + 1 + 1 + 1) (i := i) (v := .int .u8 0) (by omega) (by omega)).st3 (k := wr.heap.size) (v0 := .int .i64 k) (v1 := .int .i64 fm) (v2 := .int .i64 a) (by omega) (by omega)
        have HY2 := Lib.hid Y2
        have HR2 := Lib.hid R2
        have HG2 := Lib.hid G2
        have HBD := Lib.hid (srs_bad HZ.out HO.out HF.out hi bd)
        clear V1 Y1 Y2 F1 R1 R2 T1 G2 hyv c0 c1 c2 hyb hyl bd hk
        go_wp2_with fail
        generalize (((w1.setCell ⟨W.heap.size + 1 + 1 + 1, i, none⟩ (.int .u8 0)).setCell ⟨wr.heap.size, 0, none⟩ (.int .i64 k)).setCell ⟨wr.heap.size, 1, none⟩ (.int .i64 fm)).setCell ⟨wr.heap.size, 2, none⟩ (.int .i64 a) = w2 at HY2 HR2 HG2 ⊢
        clear q0 q1 q2 p0 p1 p2 va vf
        have q0 := HG2.out.c0
        have q1 := HG2.out.c1
        have q2 := HG2.out.c2
        have r0 := HY2.out.co.c0
        have r1 := HY2.out.co.c1
        have r2 := HY2.out.co.c2
        have r3 := HY2.out.co.c3
        have f0 := HY2.out.co.free 0
        have f1 := HY2.out.co.free 1
        have f2 := HY2.out.co.free 2
        have f3 := HY2.out.co.free 3
        have t0 := HY2.out.fl.c0
        have t1 := HY2.out.fl.c1
        have t2 := HY2.out.fl.c2
        have g0 := HY2.out.fl.free 0
        have g1 := HY2.out.fl.free 1
        have g2 := HY2.out.fl.free 2
        have n3 : ¬ wr.heap.size = W.heap.size + 1 := by omega
        have n4 : ¬ W.heap.size + 1 = wr.heap.size := by omega
        have n5 : ¬ wr.heap.size = W.heap.size + 1 + 1 := by omega
        have n6 : ¬ W.heap.size + 1 + 1 = wr.heap.size := by omega
        go_region
        go_wp2
        try rw [Exit.noGoto_ret]
        refine bodyPost_ret (v := .tuple #[.agg #[.int .u8 0, .int .u8 0, .int .u8 0, .int .u8 0], .agg #[.int .i64 k, .int .i64 fm, .int .i64 a]]) (by simp only [results, Tryz.results104]; go_simp) rfl ?_
        rw [← HQ.out]
        exact ⟨(Tn.owns3 (Tn.own4 HY2.out.sx.tn (Nat.le_succ _)) (Nat.le_add_right _ 2)).dr, .inr ⟨k, fm, a, q, y, HBD.out, rfl, (Rd.st3 (rd4 HR2.out HKC HKL) HJC HJL).grown (gb_drew _ _)⟩⟩
    · obtain rfl : i = n := by omega
      have d0 : decide ((i : Int) < (i : Int)) = false := decide_eq_false (by omega)
      obtain ⟨v0, hv0⟩ : ∃ v, z.vs.getD 0 0 = v := ⟨_, rfl⟩
      obtain ⟨v1, hv1⟩ : ∃ v, z.vs.getD 1 0 = v := ⟨_, rfl⟩
      obtain ⟨v2, hv2⟩ : ∃ v, z.vs.getD 2 0 = v := ⟨_, rfl⟩
      have VB := V
      unfold Ab AV at VB
      rw [hv0, hv1, hv2] at VB
      have e0 : wr.cell? ⟨W.heap.size + 1 + 1 + 1, 0, none⟩ = some (.int .u8 (v0 : Int)) := blk_cell VB 0
      have e1 : wr.cell? ⟨W.heap.size + 1 + 1 + 1, 1, none⟩ = some (.int .u8 (v1 : Int)) := blk_cell VB 1
      have e2 : wr.cell? ⟨W.heap.size + 1 + 1 + 1, 2, none⟩ = some (.int .u8 (v2 : Int)) := blk_cell VB 2
      have c3 := Y.sx.c3
      rcases HN.out with hn1 | hn1
      · have d1 : ((i : Int) == 1) = true := by rw [beq_iff_eq]; omega
        have hpx : rpV s m zz i p = ⟨0, z.p, z.a, v0, v0, v0, z.n⟩ := by
          unfold rpV
          rw [hz, hf, if_neg (by omega), if_neg (by omega), hv0]
        have hb : v0 ≤ 255 := by
          rw [← hv0]
          refine hle _ ?_
          rw [List.getD_eq_getElem?_getD, List.getElem?_eq_getElem (by omega)]
          exact List.getElem_mem _
        have KC := Lib.hid (fun u => xgrey_calls (v0 : Int) u)
        have HPX := Lib.hid hpx
        have HBB := Lib.hid hb
        have HY := Lib.hid Y
        have HR := Lib.hid R
        have HSQ := Lib.hid SQ
        clear VB V hpx hb Y R hv0 hv1 hv2 hz hf hlen hle SQ hn1 hi3 hi HN hn3
        go_wp2_with fail
        refine (KC.out _).mono ?_
        rintro e w1 ⟨rfl, gg⟩
        have Y1 := HY.out.gb gg
        have r0 := Y1.co.c0
        have r1 := Y1.co.c1
        have r2 := Y1.co.c2
        have r3 := Y1.co.c3
        have f0 := Y1.co.free 0
        have f1 := Y1.co.free 1
        have f2 := Y1.co.free 2
        have f3 := Y1.co.free 3
        have t0 := Y1.fl.c0
        have t1 := Y1.fl.c1
        have t2 := Y1.fl.c2
        have g0 := Y1.fl.free 0
        have g1 := Y1.fl.free 1
        have g2 := Y1.fl.free 2
        have HY1 := Lib.hid Y1
        have HR1 := Lib.hid (HR.out.grown gg)
        have Q1 := HSQ.out.turned (Tn.gb gg (S := []) (by simp)) (by simp) (by simp)
        have Q2 := (Q1.off (w' := (((w1.setCell ⟨W.heap.size + 1, 0, none⟩ (.int .u8 (v0 : Int))).setCell ⟨W.heap.size + 1, 1, none⟩ (.int .u8 (v0 : Int))).setCell ⟨W.heap.size + 1, 2, none⟩ (.int .u8 (v0 : Int))).setCell ⟨W.heap.size + 1, 3, none⟩ (.int .u8 255)) (((((Tn.refl _ _).st (by simp)).st (by simp)).st (by simp)).st (by simp)) HKS.symm Y1.co (by decide))
        have Q3 := Q2.off (w' := ((((((w1.setCell ⟨W.heap.size + 1, 0, none⟩ (.int .u8 (v0 : Int))).setCell ⟨W.heap.size + 1, 1, none⟩ (.int .u8 (v0 : Int))).setCell ⟨W.heap.size + 1, 2, none⟩ (.int .u8 (v0 : Int))).setCell ⟨W.heap.size + 1, 3, none⟩ (.int .u8 255)).setCell ⟨W.heap.size + 1 + 1, 0, none⟩ (.int .i64 0)).setCell ⟨W.heap.size + 1 + 1, 1, none⟩ (.int .i64 0)).setCell ⟨W.heap.size + 1 + 1, 2, none⟩ (.int .i64 0)) ((((Tn.refl _ _).st (by simp)).st (by simp)).st (by simp)) HJS.symm (blk_other (blk_other (blk_other (blk_other Y1.fl (by omega)) (by omega)) (by omega)) (by omega)) (by decide)
        have HQ3 := Lib.hid Q3
        clear Y1 gg e0 e1 e2 c3 Q1 Q2 Q3
        go_wp2
        try rw [Exit.noGoto_ret]
        refine bodyPost_ret (v := .tuple #[.agg #[.int .u8 v0, .int .u8 v0, .int .u8 v0, .int .u8 255], okF]) (by simp only [results, Tryz.results104, okF]; go_simp) rfl ?_
        rw [← HQ.out, HPX.out]
        exact ⟨Tn.owns3 (Tn.own4 HY1.out.sx.tn (Nat.le_succ _)) (Nat.le_add_right _ 2), .inl ⟨rfl, ⟨HBB.out, HBB.out, HBB.out⟩, rfl, Rd.st3 (rd4 HR1.out HKC HKL) HJC HJL, HQ3.out⟩⟩
      · have d1 : ((i : Int) == 1) = false := by rw [beq_eq_false_iff_ne]; omega
        have hpx : rpV s m zz i p = ⟨0, z.p, z.a, v0, v1, v2, z.n⟩ := by
          unfold rpV
          rw [hz, hf, if_pos hn1, if_pos hn1, hv0, hv1, hv2]
        have hb : v0 ≤ 255 ∧ v1 ≤ 255 ∧ v2 ≤ 255 := by
          rw [← hv0, ← hv1, ← hv2]
          refine ⟨hle _ ?_, hle _ ?_, hle _ ?_⟩
          all_goals
            rw [List.getD_eq_getElem?_getD, List.getElem?_eq_getElem (by omega)]
            exact List.getElem_mem _
        have KC := Lib.hid (fun u => xcolor_calls (v0 : Int) (v1 : Int) (v2 : Int) u)
        have HPX := Lib.hid hpx
        have HBB := Lib.hid hb
        have HY := Lib.hid Y
        have HR := Lib.hid R
        have HSQ := Lib.hid SQ
        clear VB V hpx hb Y R hv0 hv1 hv2 hz hf hlen hle SQ hn1 hi3 hi HN hn3
        go_wp2_with fail
        refine (KC.out _).mono ?_
        rintro e w1 ⟨rfl, gg⟩
        have Y1 := HY.out.gb gg
        have r0 := Y1.co.c0
        have r1 := Y1.co.c1
        have r2 := Y1.co.c2
        have r3 := Y1.co.c3
        have f0 := Y1.co.free 0
        have f1 := Y1.co.free 1
        have f2 := Y1.co.free 2
        have f3 := Y1.co.free 3
        have t0 := Y1.fl.c0
        have t1 := Y1.fl.c1
        have t2 := Y1.fl.c2
        have g0 := Y1.fl.free 0
        have g1 := Y1.fl.free 1
        have g2 := Y1.fl.free 2
        have HY1 := Lib.hid Y1
        have HR1 := Lib.hid (HR.out.grown gg)
        have Q1 := HSQ.out.turned (Tn.gb gg (S := []) (by simp)) (by simp) (by simp)
        have Q2 := (Q1.off (w' := (((w1.setCell ⟨W.heap.size + 1, 0, none⟩ (.int .u8 (v0 : Int))).setCell ⟨W.heap.size + 1, 1, none⟩ (.int .u8 (v1 : Int))).setCell ⟨W.heap.size + 1, 2, none⟩ (.int .u8 (v2 : Int))).setCell ⟨W.heap.size + 1, 3, none⟩ (.int .u8 255)) (((((Tn.refl _ _).st (by simp)).st (by simp)).st (by simp)).st (by simp)) HKS.symm Y1.co (by decide))
        have Q3 := Q2.off (w' := ((((((w1.setCell ⟨W.heap.size + 1, 0, none⟩ (.int .u8 (v0 : Int))).setCell ⟨W.heap.size + 1, 1, none⟩ (.int .u8 (v1 : Int))).setCell ⟨W.heap.size + 1, 2, none⟩ (.int .u8 (v2 : Int))).setCell ⟨W.heap.size + 1, 3, none⟩ (.int .u8 255)).setCell ⟨W.heap.size + 1 + 1, 0, none⟩ (.int .i64 0)).setCell ⟨W.heap.size + 1 + 1, 1, none⟩ (.int .i64 0)).setCell ⟨W.heap.size + 1 + 1, 2, none⟩ (.int .i64 0)) ((((Tn.refl _ _).st (by simp)).st (by simp)).st (by simp)) HJS.symm (blk_other (blk_other (blk_other (blk_other Y1.fl (by omega)) (by omega)) (by omega)) (by omega)) (by decide)
        have HQ3 := Lib.hid Q3
        clear Y1 gg e0 e1 e2 c3 Q1 Q2 Q3
        go_wp2
        try rw [Exit.noGoto_ret]
        refine bodyPost_ret (v := .tuple #[.agg #[.int .u8 v0, .int .u8 v1, .int .u8 v2, .int .u8 255], okF]) (by simp only [results, Tryz.results104, okF]; go_simp) rfl ?_
        rw [← HQ.out, HPX.out]
        exact ⟨Tn.owns3 (Tn.own4 HY1.out.sx.tn (Nat.le_succ _)) (Nat.le_add_right _ 2), .inl ⟨rfl, HBB.out, rfl, Rd.st3 (rd4 HR1.out HKC HKL) HJC HJL, HQ3.out⟩⟩

end Go.Proofs.YtcfdippcobkbaaaGreat.Px

/- Raw pixels of a bit each: the closure of readBits. -/
namespace Go.Proofs.YtcfdippcobkbaaaGreat.Px
open Go.ChangeShapes Go.WideShapes Go.ChangeAt Go.RowKit
open Go.Proofs.YtcfdippcobkbaaaGreat.Le Go.Proofs.YtcfdippcobkbaaaGreat.Tk Go.Proofs.YtcfdippcobkbaaaGreat.Sc Go.Proofs.YtcfdippcobkbaaaGreat.Sr Go.Proofs.YtcfdippcobkbaaaGreat.Ph Go.Proofs.YtcfdippcobkbaaaGreat.Bi
set_option linter.unusedVariables false

/-- The pixel i of rows of w bits; a is the place ahead of it. -/
def bpV (s : ByteArray) (w i a : Nat) : PX :=
  if i % w % 8 = 0 then (if s.size ≤ a then ⟨1, s.size, 0, 0, 0, 0, 1⟩ else ⟨0, 0, a + 1, rawB s a 0, rawB s a 0, rawB s a 0, 1⟩)
  else ⟨0, 0, a, rawB s (a - 1) (i % w % 8), rawB s (a - 1) (i % w % 8), rawB s (a - 1) (i % w % 8), 0⟩
/-- A reader of bits whose last left bits of the byte ahead of a are to come; the two cells that a closure has. -/
structure BL (rb c bc sc : Nat) (s : ByteArray) (a left : Nat) (w : World) : Prop where
  bt : ∃ y : Nat, Bt rb c (y : Int) (left : Int) false w ∧ (0 < left → 1 ≤ a ∧ y = Tk.bt s (a - 1))
  cb : w.heap[bc]? = some (.cells #[.pointer (some ⟨rb, 0, none⟩)] 159 (0, 0))
  cs : w.heap[sc]? = some (.cells #[.pointer (some ⟨c, 0, none⟩)] 65 (0, 0))
theorem BL.turned {rb c bc sc : Nat} {s : ByteArray} {a left : Nat} {w w' : World} {S : List Nat} (h : BL rb c bc sc s a left w) (t : Tn w w' S) (h1 : rb ∉ S) (h2 : bc ∉ S) (h3 : sc ∉ S) : BL rb c bc sc s a left w' := by
  obtain ⟨y, hy, hl⟩ := h.bt
  exact ⟨⟨y, hy.turned t h1, hl⟩, (t.block bc (blk_lt h.cb) h2).trans h.cb, (t.block sc (blk_lt h.cs) h3).trans h.cs⟩
theorem bt_256 (s : ByteArray) (j : Nat) : Tk.bt s j < 256 := Tk.bt_lt s j

/-- A bit is read, whatever is left of the byte at hand. -/
theorem bit_calls (rb c l bc sc : Nat) (s : ByteArray) (a left : Nat) (x : St) (W : World) (h : Rd c l s a x W) (hr : x.r = 0) (B : BL rb c bc sc s a left W) (h7 : left ≤ 7) (rl : rb ≠ l) (nb : bc ∉ [rb, c, l]) (ns : sc ∉ [rb, c, l]) :
    Calls Tryz.prog 100 #[.pointer (some ⟨rb, 0, none⟩), .int .i64 1] W fun e w' => Tn W w' [rb, c, l] ∧
      ((0 < left ∧ e = .returned (.tuple #[.int .i64 ((Tk.bt s (a - 1) / 2 ^ (left - 1) % 2 : Nat) : Int), .bool true]) ∧ Rd c l s a x w' ∧ BL rb c bc sc s a (left - 1) w') ∨
       (left = 0 ∧ a < s.size ∧ e = .returned (.tuple #[.int .i64 ((Tk.bt s a / 2 ^ 7 % 2 : Nat) : Int), .bool true]) ∧ Rd c l s (a + 1) (stp x 1) w' ∧ BL rb c bc sc s (a + 1) 7 w') ∨
       (left = 0 ∧ ∃ y, ((s.size ≤ a ∧ y = stp x 1) ∨ (x.s < x.st + 1 ∧ y = spent x)) ∧ e = .returned (.tuple #[.int .i64 0, .bool false]) ∧ Rd c l s a y w' ∧ W.heap.size ≤ w'.heap.size ∧ w'.heap[sc]? = some (.cells #[.pointer (some ⟨c, 0, none⟩)] 65 (0, 0)))) := by
  obtain ⟨y, hB, hl⟩ := B.bt
  have keep : ∀ w', Tn W w' [rb, c, l] → w'.heap[bc]? = some (.cells #[.pointer (some ⟨rb, 0, none⟩)] 159 (0, 0)) ∧ w'.heap[sc]? = some (.cells #[.pointer (some ⟨c, 0, none⟩)] 65 (0, 0)) := fun w' t =>
    ⟨(t.block bc (blk_lt B.cb) nb).trans B.cb, (t.block sc (blk_lt B.cs) ns).trans B.cs⟩
  by_cases h0 : 0 < left
  · obtain ⟨ha, rfl⟩ := hl h0
    refine (read1_of rb c l s (Tk.bt s (a - 1)) (left - 1) a x W (by omega) (bt_256 _ _) ?_ rl).mono ?_
    · refine (fill_some rb c _ left false W hB (by omega)).mono ?_
      rintro e w' ⟨rfl, rfl⟩
      rw [show left - 1 + 1 = left from by omega]
      exact ⟨rfl, ⟨hB, h⟩, Tn.refl _ _⟩
    · rintro e w' ⟨he, ⟨B', R'⟩, T⟩
      obtain ⟨k1, k2⟩ := keep w' T
      exact ⟨T, .inl ⟨h0, he, R', ⟨⟨_, B', fun _ => ⟨ha, rfl⟩⟩, k1, k2⟩⟩⟩
  · obtain rfl : left = 0 := by omega
    by_cases hk : x.st + 1 ≤ x.s
    · have hw := work_one hr hk
      by_cases hp : a < s.size
      · have hn : rdB x a s.size 1 = true := by
          unfold rdB
          rw [hw]
          simp [canB]
          omega
        refine (read1_of rb c l s (Tk.bt s a) 7 (a + 1) (stp x 1) W (by omega) (bt_256 _ _) ?_ rl).mono ?_
        · refine (fill_yes rb c l s a 0 s.size x y false W hB h.so h.led h.ok rl hn hp).mono ?_
          rintro e w' ⟨he, ⟨B', S', L'⟩, T⟩
          have hbt : ((s[a].toNat : Nat) : Int) = ((Tk.bt s a : Nat) : Int) := by
            rw [← numV1 true s a hp]
            have hl : (s.extract a (a + 1)).data.toList = [s[a]] := by
              rw [Lib.extract_data, show a + 1 - a = 1 from by omega, List.drop_eq_getElem_cons (by rw [← Lib.size_eq]; exact hp), byte_at' s a hp]
              rfl
            unfold Sr.numV
            rw [hl]
            simp [ordd, acc]
          rw [hbt] at B'
          rw [hw] at L'
          exact ⟨he, ⟨B', ⟨S', L', stp_ok h.ok hr hk⟩⟩, T⟩
        · rintro e w' ⟨he, ⟨B', R'⟩, T⟩
          obtain ⟨k1, k2⟩ := keep w' T
          exact ⟨T, .inr (.inl ⟨rfl, hp, he, R', ⟨⟨_, B', fun _ => ⟨by omega, by rw [Nat.add_sub_cancel]⟩⟩, k1, k2⟩⟩)⟩
      · have hn : rdB x a s.size 1 = false := by
          unfold rdB
          rw [hw]
          simp [canB]
          omega
        refine (read1_no rb c l s a x W (fun w' => Tn W w' [rb, c, l] ∧ Rd c l s a (stp x 1) w') ?_).mono ?_
        · refine (fill_no rb c l s a 0 s.size x y false W hB h.so h.led h.ok rl hn).mono ?_
          rintro e w' ⟨he, ⟨B', S', L'⟩, g⟩
          rw [hw] at L'
          exact ⟨he, Tn.gb g (by simp), ⟨S', L', stp_ok h.ok hr hk⟩⟩
        · rintro e w' ⟨he, T, R'⟩
          exact ⟨T, .inr (.inr ⟨rfl, _, .inl ⟨by omega, rfl⟩, he, R', T.size, (keep w' T).2⟩)⟩
    · have hk' : x.s < x.st + 1 := by omega
      have hw := work_none h.ok hr hk'
      have hn : rdB x a s.size 1 = false := by
        unfold rdB
        rw [hw]
        rfl
      refine (read1_no rb c l s a x W (fun w' => Tn W w' [rb, c, l] ∧ Rd c l s a (spent x) w') ?_).mono ?_
      · refine (fill_no rb c l s a 0 s.size x y false W hB h.so h.led h.ok rl hn).mono ?_
        rintro e w' ⟨he, ⟨B', S', L'⟩, g⟩
        rw [hw] at L'
        exact ⟨he, Tn.gb g (by simp), ⟨S', L', spn_ok h.ok hr hk'⟩⟩
      · rintro e w' ⟨he, T, R'⟩
        exact ⟨T, .inr (.inr ⟨rfl, _, .inr ⟨hk', rfl⟩, he, R', T.size, (keep w' T).2⟩)⟩

end Go.Proofs.YtcfdippcobkbaaaGreat.Px

/- Raw pixels of a bit each: a pixel (written by wip/gen/prw5.py). -/
namespace Go.Proofs.YtcfdippcobkbaaaGreat.Px
open Go.ChangeShapes Go.WideShapes Go.ChangeAt Go.RowKit
open Go.Proofs.YtcfdippcobkbaaaGreat.Le Go.Proofs.YtcfdippcobkbaaaGreat.Tk Go.Proofs.YtcfdippcobkbaaaGreat.Sc Go.Proofs.YtcfdippcobkbaaaGreat.Sr Go.Proofs.YtcfdippcobkbaaaGreat.Ph Go.Proofs.YtcfdippcobkbaaaGreat.Bi
set_option linter.unusedVariables false

/-- Behind a bit that is a pixel's. -/
def BO (W : World) (rb c l bc sc : Nat) (s : ByteArray) (xs a : Nat) (x : St) (o : PX) (e : Ending) (w' : World) : Prop :=
  Tn W w' [rb, c, l] ∧ ((∃ bit v : Nat, o = ⟨0, 0, o.a, v, v, v, o.n⟩ ∧ v ≤ 255 ∧ (((bit : Int) == 1) = true ∧ (v : Int) = 0 ∨ ((bit : Int) == 1) = false ∧ (v : Int) = 255) ∧ e = .returned (.tuple #[.int .i64 bit, .bool true]) ∧
      Rd c l s o.a (stp x o.n) w' ∧ BL rb c bc sc s o.a (7 - xs % 8) w') ∨
    (∃ y, ((o.f ≠ 0 ∧ o = ⟨1, s.size, 0, 0, 0, 0, 1⟩ ∧ y = stp x 1) ∨ (o.n = 1 ∧ x.s < x.st + 1 ∧ y = spent x)) ∧ e = .returned (.tuple #[.int .i64 0, .bool false]) ∧ Rd c l s a y w' ∧ w'.heap[sc]? = some (.cells #[.pointer (some ⟨c, 0, none⟩)] 65 (0, 0))))
theorem raw_hv (b q : Nat) : 255 * (1 - b / 2 ^ q % 2) ≤ 255 ∧ ((((b / 2 ^ q % 2 : Nat) : Int) == 1) = true ∧ ((255 * (1 - b / 2 ^ q % 2) : Nat) : Int) = 0 ∨ (((b / 2 ^ q % 2 : Nat) : Int) == 1) = false ∧ ((255 * (1 - b / 2 ^ q % 2) : Nat) : Int) = 255) := by
  obtain ⟨t, ht⟩ : ∃ t, b / 2 ^ q % 2 = t := ⟨_, rfl⟩
  have h2 : t < 2 := ht ▸ Nat.mod_lt _ (by decide)
  rw [ht]
  refine ⟨by omega, ?_⟩
  by_cases h1 : t = 1
  · exact .inl ⟨by rw [beq_iff_eq]; omega, by omega⟩
  · exact .inr ⟨by rw [beq_eq_false_iff_ne]; omega, by omega⟩
theorem bit_pix (rb c l bc sc : Nat) (s : ByteArray) (w i xs a left : Nat) (x : St) (W : World) (hxs : i % w = xs) (h : Rd c l s a x W) (hr : x.r = 0) (B : BL rb c bc sc s a left W) (hl : left = (8 - xs % 8) % 8) (rl : rb ≠ l) (nb : bc ∉ [rb, c, l]) (ns : sc ∉ [rb, c, l]) :
    Calls Tryz.prog 100 #[.pointer (some ⟨rb, 0, none⟩), .int .i64 1] W (BO W rb c l bc sc s xs a x (bpV s w i a)) := by
  have hm := Nat.mod_lt xs (show 8 > 0 by decide)
  refine (bit_calls rb c l bc sc s a left x W h hr B (by omega) rl nb ns).mono ?_
  rintro e w' ⟨T, ⟨h0, he, R, B'⟩ | ⟨h0, ha, he, R, B'⟩ | ⟨h0, y, hy, he, R, _, K⟩⟩
  · have hne : ¬ xs % 8 = 0 := by omega
    have ho : bpV s w i a = ⟨0, 0, a, rawB s (a - 1) (xs % 8), rawB s (a - 1) (xs % 8), rawB s (a - 1) (xs % 8), 0⟩ := by
      unfold bpV
      rw [hxs, if_neg hne]
    have hv := raw_hv (Tk.bt s (a - 1)) (7 - xs % 8)
    rw [show left - 1 = 7 - xs % 8 from by omega] at he B'
    rw [ho]
    refine ⟨T, .inl ⟨Tk.bt s (a - 1) / 2 ^ (7 - xs % 8) % 2, rawB s (a - 1) (xs % 8), rfl, hv.1, hv.2, he, ?_, B'⟩⟩
    show Rd c l s a (stp x 0) w'
    rw [stp_0]
    exact R
  · have hne : xs % 8 = 0 := by omega
    have ho : bpV s w i a = ⟨0, 0, a + 1, rawB s a 0, rawB s a 0, rawB s a 0, 1⟩ := by
      unfold bpV
      rw [hxs, if_pos hne, if_neg (by omega)]
    have hv := raw_hv (Tk.bt s a) 7
    rw [show (7 : Nat) = 7 - xs % 8 from by omega] at B'
    rw [ho]
    exact ⟨T, .inl ⟨Tk.bt s a / 2 ^ 7 % 2, rawB s a 0, rfl, hv.1, hv.2, he, R, B'⟩⟩
  · have hne : xs % 8 = 0 := by omega
    refine ⟨T, .inr ⟨y, ?_, he, R, K⟩⟩
    rcases hy with ⟨h1, h2⟩ | ⟨h1, h2⟩
    · have ho : bpV s w i a = ⟨1, s.size, 0, 0, 0, 0, 1⟩ := by
        unfold bpV
        rw [hxs, if_pos hne, if_pos h1]
      rw [ho]
      exact .inl ⟨Nat.one_ne_zero, rfl, h2⟩
    · refine .inr ⟨?_, h1, h2⟩
      unfold bpV
      rw [hxs, if_pos hne]
      split <;> rfl

/-- The results' blocks of the closure. -/
structure SW (W : World) (rb c l : Nat) (w : World) : Prop where
  co : Co W.heap.size 0 0 0 0 w
  fl : Fl (W.heap.size + 1) 0 0 0 w
  tn : Tn W w [rb, c, l]
  rw : rb < W.heap.size
  cw : c < W.heap.size
  lw : l < W.heap.size
theorem SW.turned {W : World} {rb c l : Nat} {w w' : World} (h : SW W rb c l w) (t : Tn w w' [rb, c, l]) : SW W rb c l w' := by
  have h1 := h.rw
  have h2 := h.cw
  have h3 := h.lw
  exact ⟨h.co.turned t (by simp; omega), h.fl.turned t (by simp; omega), h.tn.trans t, h1, h2, h3⟩

set_option maxRecDepth 100000 in
set_option maxHeartbeats 4000000 in
theorem bink_calls0 (rb c l bc sc : Nat) (s : ByteArray) (w i xs a left : Nat) (x : St) (W : World) (hxs : i % w = xs) (h : Rd c l s a x W) (hr : x.r = 0) (B : BL rb c bc sc s a left W) (rl : rb ≠ l) (rc : rb ≠ c) (nb : bc ∉ [rb, c, l]) (ns : sc ∉ [rb, c, l]) (h0 : xs = 0) :
    Calls Tryz.prog 98 #[.int .i64 xs, .pointer (some ⟨bc, 0, none⟩), .pointer (some ⟨sc, 0, none⟩)] W
      (NP W [rb, c, l] c l s x (bpV s w i a) (fun w' => BL rb c bc sc s (bpV s w i a).a (7 - xs % 8) w')) := by
  have hcw := h.clt
  have hlw := h.llt
  have hrw : rb < W.heap.size := by
    obtain ⟨y, hB, _⟩ := B.bt
    exact hB.lt
  have hbw := blk_lt B.cb
  have hsw := blk_lt B.cs
  have g0 := gb_trans (World.grownBy_alloc W (.cells #[.int .u8 0, .int .u8 0, .int .u8 0, .int .u8 0] 60) none) (World.grownBy_alloc _ (.cells #[.int .i64 0, .int .i64 0, .int .i64 0] 34) none)
  have S0 : SW W rb c l ((W.alloc (.cells #[.int .u8 0, .int .u8 0, .int .u8 0, .int .u8 0] 60)).alloc (.cells #[.int .i64 0, .int .i64 0, .int .i64 0] 34)) := by
    refine ⟨Co.al blk_at _, ?_, Tn.gb g0 (by simp), hrw, hcw, hlw⟩
    rw [← size_alloc W (.cells #[.int .u8 0, .int .u8 0, .int .u8 0, .int .u8 0] 60)]
    exact Fl.new _
  have HS0 := Lib.hid S0
  have HR0 := Lib.hid (h.grown g0)
  have HB0 := Lib.hid (B.turned (Tn.gb g0 (S := []) (by simp)) (by simp) (by simp) (by simp))
  have HKC : W.heap.size ≠ c := by omega
  have HKL : W.heap.size ≠ l := by omega
  have HJC : W.heap.size + 1 ≠ c := by omega
  have HJL : W.heap.size + 1 ≠ l := by omega
  obtain ⟨Q, hQ⟩ : ∃ Q, NP W [rb, c, l] c l s x (bpV s w i a) (fun w' => BL rb c bc sc s (bpV s w i a).a (7 - xs % 8) w') = Q := ⟨_, rfl⟩
  rw [hQ]
  have HQ := Lib.hid hQ
  have bcW : W.cell? ⟨bc, 0, none⟩ = some (.pointer (some ⟨rb, 0, none⟩)) := blk_cell B.cb 0
  have d0 : ((xs : Int) == 0) = true := by rw [beq_iff_eq]; omega
  clear hQ S0 g0 h B
  go_enter Tryz.func98, Tryz.ntmps98
  go_wp2_with fail
  generalize (W.alloc (.cells #[.int .u8 0, .int .u8 0, .int .u8 0, .int .u8 0] 60)).alloc (.cells #[.int .i64 0, .int .i64 0, .int .i64 0] 34) = w0 at HS0 HR0 HB0 ⊢
  clear bcW
  have bc0 : w0.cell? ⟨bc, 0, none⟩ = some (.pointer (some ⟨rb, 0, none⟩)) := blk_cell HB0.out.cb 0
  obtain ⟨y0, hB, hl0⟩ := HB0.out.bt
  have KA := Lib.hid (align_bits rb c (y0 : Int) (left : Int) false w0 hB)
  clear hB hl0
  refine KA.out.mono ?_
  rintro e w1 ⟨rfl, B1, g1⟩
  have TA : Tn w0 w1 [rb] := Tn.gb g1 (by simp)
  have HS1 := Lib.hid (HS0.out.turned (TA.mono (by simp)))
  have HR1 := Lib.hid (Rd.mk (HR0.out.so.turned TA (by simpa using rc.symm)) (HR0.out.led.turned TA (by simpa using rl.symm)) HR0.out.ok)
  have hb' : bc ≠ rb := by simp at nb; exact nb.1
  have hs' : sc ≠ rb := by simp at ns; exact ns.1
  have HB1 : BL rb c bc sc s a 0 w1 := ⟨⟨y0, B1, fun h => absurd h (by decide)⟩, (TA.block bc (blk_lt HB0.out.cb) (by simpa using hb')).trans HB0.out.cb, (TA.block sc (blk_lt HB0.out.cs) (by simpa using hs')).trans HB0.out.cs⟩
  have HB1 := Lib.hid HB1
  clear B1 g1 TA HS0 HR0 HB0 KA bc0 d0
  have hl : 0 = (8 - xs % 8) % 8 := by rw [h0]
  have bc1 : w1.cell? ⟨bc, 0, none⟩ = some (.pointer (some ⟨rb, 0, none⟩)) := blk_cell HB1.out.cb 0
  have KB := Lib.hid (bit_pix rb c l bc sc s w i xs a 0 x w1 hxs HR1.out hr HB1.out hl rl nb ns)
  obtain ⟨o, ho⟩ : ∃ o, bpV s w i a = o := ⟨_, rfl⟩
  rw [ho] at KB HQ
  clear ho hl h0 hxs
  go_wp2_with fail
  refine KB.out.mono ?_
  rintro e w2 ⟨T2, ⟨bit, v, hov, hv, hink, rfl, R2, B2⟩ | ⟨y, hy, rfl, R2, K2⟩⟩
  · have S2 := HS1.out.turned T2
    have KI := Lib.hid (fun u => xink_calls (bit : Int) (v : Int) u hink)
    have HS2 := Lib.hid S2
    have HR2 := Lib.hid R2
    have HB2 := Lib.hid B2
    have HOV := Lib.hid hov
    have HV := Lib.hid hv
    clear S2 R2 B2 T2 hov hv hink bc1 KB
    go_wp2_with fail
    refine (KI.out _).mono ?_
    rintro e w3 ⟨rfl, gg⟩
    have S3 := HS2.out.turned (Tn.gb gg (by simp))
    have r0 := S3.co.c0
    have r1 := S3.co.c1
    have r2 := S3.co.c2
    have r3 := S3.co.c3
    have f0 := S3.co.free 0
    have f1 := S3.co.free 1
    have f2 := S3.co.free 2
    have f3 := S3.co.free 3
    have t0 := S3.fl.c0
    have t1 := S3.fl.c1
    have t2 := S3.fl.c2
    have g0 := S3.fl.free 0
    have g1 := S3.fl.free 1
    have g2 := S3.fl.free 2
    have HS3 := Lib.hid S3
    have HR3 := Lib.hid (HR2.out.grown gg)
    have HB3 := Lib.hid (HB2.out.turned (Tn.gb gg (S := []) (by simp)) (by simp) (by simp) (by simp))
    clear S3 gg
    go_wp2
    refine bodyPost_ret (v := .tuple #[.agg #[.int .u8 v, .int .u8 v, .int .u8 v, .int .u8 255], okF]) (by simp only [results, Tryz.results98, okF]; go_simp) rfl ?_
    rw [← HQ.out]
    refine ⟨Tn.owns3 (Tn.own4 HS3.out.tn (Nat.le_refl _)) (Nat.le_succ _), .inl ?_⟩
    have hO := HOV.out
    refine ⟨by rw [hO], by rw [hO]; exact ⟨HV.out, HV.out, HV.out⟩, by rw [hO], Rd.st3 (rd4 HR3.out HKC HKL) HJC HJL, ?_⟩
    exact HB3.out.turned (S := [W.heap.size, W.heap.size + 1]) (((((((((Tn.refl _ _).st (by simp)).st (by simp)).st (by simp)).st (by simp))).st (by simp)).st (by simp)).st (by simp)) (by simp; omega) (by simp; omega) (by simp; omega)
  · have S2 := HS1.out.turned T2
    have sc2 : w2.cell? ⟨sc, 0, none⟩ = some (.pointer (some ⟨c, 0, none⟩)) := blk_cell K2 0
    have KF : Calls Tryz.prog 82 #[.pointer (some ⟨c, 0, none⟩), .int .i64 3] w2 fun e w' => ∃ k b : Int, e = .returned (.agg #[.int .i64 k, .int .i64 3, .int .i64 b]) ∧ BD s x o.f o.p o.n k 3 b a y ∧ Rd c l s a y w' ∧ w2.grownBy w' none := by
      rcases hy with ⟨h0, h1, rfl⟩ | ⟨h0, h1, rfl⟩
      · rw [h1]
        exact (fault_end c l s a _ 3 w2 R2 hr).mono fun e w' ⟨he, R, g⟩ => ⟨1, s.size, he, ⟨R2.so.pt, .inl ⟨Nat.one_ne_zero, rfl, rfl, rfl, rfl⟩⟩, R, g⟩
      · rw [h0]
        exact (fault_spent c l s a x 3 w2 R2).mono fun e w' ⟨he, R, g⟩ => ⟨4, a, he, ⟨R2.so.pt, .inr ⟨h1, rfl, rfl, rfl, rfl⟩⟩, R, g⟩
    have KF := Lib.hid KF
    have HS2 := Lib.hid S2
    clear S2 R2 T2 hy K2 bc1 KB
    go_wp2_with fail
    refine KF.out.mono ?_
    rintro e w3 ⟨k, b, rfl, bd, R3, gg⟩
    have S3 := HS2.out.turned (Tn.gb gg (by simp))
    have r0 := S3.co.c0
    have r1 := S3.co.c1
    have r2 := S3.co.c2
    have r3 := S3.co.c3
    have f0 := S3.co.free 0
    have f1 := S3.co.free 1
    have f2 := S3.co.free 2
    have f3 := S3.co.free 3
    have t0 := S3.fl.c0
    have t1 := S3.fl.c1
    have t2 := S3.fl.c2
    have g0 := S3.fl.free 0
    have g1 := S3.fl.free 1
    have g2 := S3.fl.free 2
    have HS3 := Lib.hid S3
    have HR3 := Lib.hid R3
    have HBD := Lib.hid bd
    clear S3 gg R3 bd sc2
    go_wp2
    refine bodyPost_ret (v := .tuple #[.agg #[.int .u8 0, .int .u8 0, .int .u8 0, .int .u8 0], .agg #[.int .i64 k, .int .i64 3, .int .i64 b]]) (by simp only [results, Tryz.results98]; go_simp) rfl ?_
    rw [← HQ.out]
    exact ⟨Tn.owns3 (Tn.own4 HS3.out.tn (Nat.le_refl _)) (Nat.le_succ _), .inr ⟨k, 3, b, a, y, HBD.out, rfl, Rd.st3 (rd4 HR3.out HKC HKL) HJC HJL⟩⟩

set_option maxRecDepth 100000 in
set_option maxHeartbeats 4000000 in
theorem bink_calls (rb c l bc sc : Nat) (s : ByteArray) (w i xs a left : Nat) (x : St) (W : World) (hxs : i % w = xs) (h : Rd c l s a x W) (hr : x.r = 0) (B : BL rb c bc sc s a left W) (rl : rb ≠ l) (rc : rb ≠ c) (nb : bc ∉ [rb, c, l]) (ns : sc ∉ [rb, c, l]) (hx0 : xs ≠ 0) (hl : left = (8 - xs % 8) % 8) :
    Calls Tryz.prog 98 #[.int .i64 xs, .pointer (some ⟨bc, 0, none⟩), .pointer (some ⟨sc, 0, none⟩)] W
      (NP W [rb, c, l] c l s x (bpV s w i a) (fun w' => BL rb c bc sc s (bpV s w i a).a (7 - xs % 8) w')) := by
  have hcw := h.clt
  have hlw := h.llt
  have hrw : rb < W.heap.size := by
    obtain ⟨y, hB, _⟩ := B.bt
    exact hB.lt
  have hbw := blk_lt B.cb
  have hsw := blk_lt B.cs
  have g0 := gb_trans (World.grownBy_alloc W (.cells #[.int .u8 0, .int .u8 0, .int .u8 0, .int .u8 0] 60) none) (World.grownBy_alloc _ (.cells #[.int .i64 0, .int .i64 0, .int .i64 0] 34) none)
  have S0 : SW W rb c l ((W.alloc (.cells #[.int .u8 0, .int .u8 0, .int .u8 0, .int .u8 0] 60)).alloc (.cells #[.int .i64 0, .int .i64 0, .int .i64 0] 34)) := by
    refine ⟨Co.al blk_at _, ?_, Tn.gb g0 (by simp), hrw, hcw, hlw⟩
    rw [← size_alloc W (.cells #[.int .u8 0, .int .u8 0, .int .u8 0, .int .u8 0] 60)]
    exact Fl.new _
  have HS0 := Lib.hid S0
  have HR0 := Lib.hid (h.grown g0)
  have HB0 := Lib.hid (B.turned (Tn.gb g0 (S := []) (by simp)) (by simp) (by simp) (by simp))
  have HKC : W.heap.size ≠ c := by omega
  have HKL : W.heap.size ≠ l := by omega
  have HJC : W.heap.size + 1 ≠ c := by omega
  have HJL : W.heap.size + 1 ≠ l := by omega
  obtain ⟨Q, hQ⟩ : ∃ Q, NP W [rb, c, l] c l s x (bpV s w i a) (fun w' => BL rb c bc sc s (bpV s w i a).a (7 - xs % 8) w') = Q := ⟨_, rfl⟩
  rw [hQ]
  have HQ := Lib.hid hQ
  have bcW : W.cell? ⟨bc, 0, none⟩ = some (.pointer (some ⟨rb, 0, none⟩)) := blk_cell B.cb 0
  have d0 : ((xs : Int) == 0) = false := by rw [beq_eq_false_iff_ne]; omega
  clear hQ S0 g0 h B
  go_enter Tryz.func98, Tryz.ntmps98
  go_wp2_with fail
  generalize (W.alloc (.cells #[.int .u8 0, .int .u8 0, .int .u8 0, .int .u8 0] 60)).alloc (.cells #[.int .i64 0, .int .i64 0, .int .i64 0] 34) = w0 at HS0 HR0 HB0 ⊢
  clear bcW
  have w1_ : ∃ w1, w0 = w1 := ⟨_, rfl⟩
  obtain ⟨w1, hw1⟩ := w1_
  rw [hw1] at HS0 HR0 HB0 ⊢
  have HS1 := HS0
  have HR1 := HR0
  have HB1 := HB0
  clear HS0 HR0 HB0 hw1
  have bc1 : w1.cell? ⟨bc, 0, none⟩ = some (.pointer (some ⟨rb, 0, none⟩)) := blk_cell HB1.out.cb 0
  have KB := Lib.hid (bit_pix rb c l bc sc s w i xs a left x w1 hxs HR1.out hr HB1.out hl rl nb ns)
  obtain ⟨o, ho⟩ : ∃ o, bpV s w i a = o := ⟨_, rfl⟩
  rw [ho] at KB HQ
  clear ho hl hxs
  refine KB.out.mono ?_
  rintro e w2 ⟨T2, ⟨bit, v, hov, hv, hink, rfl, R2, B2⟩ | ⟨y, hy, rfl, R2, K2⟩⟩
  · have S2 := HS1.out.turned T2
    have KI := Lib.hid (fun u => xink_calls (bit : Int) (v : Int) u hink)
    have HS2 := Lib.hid S2
    have HR2 := Lib.hid R2
    have HB2 := Lib.hid B2
    have HOV := Lib.hid hov
    have HV := Lib.hid hv
    clear S2 R2 B2 T2 hov hv hink bc1 KB
    go_wp2_with fail
    refine (KI.out _).mono ?_
    rintro e w3 ⟨rfl, gg⟩
    have S3 := HS2.out.turned (Tn.gb gg (by simp))
    have r0 := S3.co.c0
    have r1 := S3.co.c1
    have r2 := S3.co.c2
    have r3 := S3.co.c3
    have f0 := S3.co.free 0
    have f1 := S3.co.free 1
    have f2 := S3.co.free 2
    have f3 := S3.co.free 3
    have t0 := S3.fl.c0
    have t1 := S3.fl.c1
    have t2 := S3.fl.c2
    have g0 := S3.fl.free 0
    have g1 := S3.fl.free 1
    have g2 := S3.fl.free 2
    have HS3 := Lib.hid S3
    have HR3 := Lib.hid (HR2.out.grown gg)
    have HB3 := Lib.hid (HB2.out.turned (Tn.gb gg (S := []) (by simp)) (by simp) (by simp) (by simp))
    clear S3 gg
    go_wp2
    refine bodyPost_ret (v := .tuple #[.agg #[.int .u8 v, .int .u8 v, .int .u8 v, .int .u8 255], okF]) (by simp only [results, Tryz.results98, okF]; go_simp) rfl ?_
    rw [← HQ.out]
    refine ⟨Tn.owns3 (Tn.own4 HS3.out.tn (Nat.le_refl _)) (Nat.le_succ _), .inl ?_⟩
    have hO := HOV.out
    refine ⟨by rw [hO], by rw [hO]; exact ⟨HV.out, HV.out, HV.out⟩, by rw [hO], Rd.st3 (rd4 HR3.out HKC HKL) HJC HJL, ?_⟩
    exact HB3.out.turned (S := [W.heap.size, W.heap.size + 1]) (((((((((Tn.refl _ _).st (by simp)).st (by simp)).st (by simp)).st (by simp))).st (by simp)).st (by simp)).st (by simp)) (by simp; omega) (by simp; omega) (by simp; omega)
  · have S2 := HS1.out.turned T2
    have sc2 : w2.cell? ⟨sc, 0, none⟩ = some (.pointer (some ⟨c, 0, none⟩)) := blk_cell K2 0
    have KF : Calls Tryz.prog 82 #[.pointer (some ⟨c, 0, none⟩), .int .i64 3] w2 fun e w' => ∃ k b : Int, e = .returned (.agg #[.int .i64 k, .int .i64 3, .int .i64 b]) ∧ BD s x o.f o.p o.n k 3 b a y ∧ Rd c l s a y w' ∧ w2.grownBy w' none := by
      rcases hy with ⟨h0, h1, rfl⟩ | ⟨h0, h1, rfl⟩
      · rw [h1]
        exact (fault_end c l s a _ 3 w2 R2 hr).mono fun e w' ⟨he, R, g⟩ => ⟨1, s.size, he, ⟨R2.so.pt, .inl ⟨Nat.one_ne_zero, rfl, rfl, rfl, rfl⟩⟩, R, g⟩
      · rw [h0]
        exact (fault_spent c l s a x 3 w2 R2).mono fun e w' ⟨he, R, g⟩ => ⟨4, a, he, ⟨R2.so.pt, .inr ⟨h1, rfl, rfl, rfl, rfl⟩⟩, R, g⟩
    have KF := Lib.hid KF
    have HS2 := Lib.hid S2
    clear S2 R2 T2 hy K2 bc1 KB
    go_wp2_with fail
    refine KF.out.mono ?_
    rintro e w3 ⟨k, b, rfl, bd, R3, gg⟩
    have S3 := HS2.out.turned (Tn.gb gg (by simp))
    have r0 := S3.co.c0
    have r1 := S3.co.c1
    have r2 := S3.co.c2
    have r3 := S3.co.c3
    have f0 := S3.co.free 0
    have f1 := S3.co.free 1
    have f2 := S3.co.free 2
    have f3 := S3.co.free 3
    have t0 := S3.fl.c0
    have t1 := S3.fl.c1
    have t2 := S3.fl.c2
    have g0 := S3.fl.free 0
    have g1 := S3.fl.free 1
    have g2 := S3.fl.free 2
    have HS3 := Lib.hid S3
    have HR3 := Lib.hid R3
    have HBD := Lib.hid bd
    clear S3 gg R3 bd sc2
    go_wp2
    refine bodyPost_ret (v := .tuple #[.agg #[.int .u8 0, .int .u8 0, .int .u8 0, .int .u8 0], .agg #[.int .i64 k, .int .i64 3, .int .i64 b]]) (by simp only [results, Tryz.results98]; go_simp) rfl ?_
    rw [← HQ.out]
    exact ⟨Tn.owns3 (Tn.own4 HS3.out.tn (Nat.le_refl _)) (Nat.le_succ _), .inr ⟨k, 3, b, a, y, HBD.out, rfl, Rd.st3 (rd4 HR3.out HKC HKL) HJC HJL⟩⟩

end Go.Proofs.YtcfdippcobkbaaaGreat.Px

/- Package pnmraw: Read, walked. -/
namespace Go.Proofs.YtcfdippcobkbaaaGreat.Px
open Go.ChangeShapes Go.WideShapes Go.ChangeAt Go.RowKit
open Go.Proofs.YtcfdippcobkbaaaGreat.Le Go.Proofs.YtcfdippcobkbaaaGreat.Tk Go.Proofs.YtcfdippcobkbaaaGreat.Sc Go.Proofs.YtcfdippcobkbaaaGreat.Sr Go.Proofs.YtcfdippcobkbaaaGreat.Ph Go.Proofs.YtcfdippcobkbaaaGreat.Ra Go.Proofs.YtcfdippcobkbaaaGreat.Bi
set_option linter.unusedVariables false

theorem rdt {c l : Nat} {s : ByteArray} {p : Nat} {x : St} {w w' : World} {S : List Nat} (h : Rd c l s p x w) (t : Tn w w' S) (hc : c ∉ S) (hl : l ∉ S) : Rd c l s p x w' := ⟨h.so.turned t hc, h.led.turned t hl, h.ok⟩
theorem fsUp {W u : World} {S : List Nat} {c l r cb g : Nat} (h : FS W S c l r cb g) (hs : W.heap.size ≤ u.heap.size) : FS u S c l r cb g :=
  ⟨fun k hk => Nat.lt_of_lt_of_le (h.sl k hk) hs, h.cS, h.lS, h.rS, h.bS, h.gS, h.rg, h.bg, Nat.lt_of_lt_of_le h.glt hs, Nat.lt_of_lt_of_le h.rlt hs, Nat.lt_of_lt_of_le h.blt hs⟩
/-- A block more, that is new. -/
theorem fsMore {W u : World} {c l r cb g b : Nat} (h : FS W [c, l] c l r cb g) (hs : W.heap.size ≤ u.heap.size) (hb : W.heap.size ≤ b) (hu : b < u.heap.size) : FS u [c, l, b] c l r cb g := by
  have h1 := h.sl c h.cS
  have h2 := h.sl l h.lS
  have h3 := h.glt
  have h4 := h.rlt
  have h5 := h.blt
  have r1 := h.rS
  have r2 := h.bS
  have r3 := h.gS
  simp only [List.mem_cons, List.not_mem_nil, or_false, not_or] at r1 r2 r3
  refine ⟨fun k hk => ?_, by simp, by simp, by simp; omega, by simp; omega, by simp; omega, h.rg, h.bg, by omega, by omega, by omega⟩
  simp only [List.mem_cons, List.not_mem_nil, or_false] at hk
  omega
/-- A filling's end, handed up by a caller that has a block of its own for it, and others. -/
theorem FP2.end2 {W W2 w1 : World} {S S2 : List Nat} {c l r cb g : Nat} {s : ByteArray} {x : St} {w h : Nat} {z : PS} {e : Ending} (fs : FS W S c l r cb g) (H : FP2 W2 S2 c l r cb g s x w h z e w1) (t : Tn W W2 (g :: S)) (hS : ∀ k, k ∈ S2 → W.heap.size ≤ k ∨ k ∈ S) :
    ∃ k gm a : Int, e = .returned (.agg #[.int .i64 k, .int .i64 gm, .int .i64 a]) ∧ ∀ (b : Nat) (u : World), W.heap.size ≤ b → Tn w1 u [b] → FP2 W S c l r cb g s x w h z (.returned (.agg #[.int .i64 k, .int .i64 gm, .int .i64 a])) u := by
  obtain ⟨T, H⟩ := H
  have t1 : Tn W w1 (g :: S) := t.over T (fun k hk => by
    rcases List.mem_cons.1 hk with rfl | hk
    · exact .inr List.mem_cons_self
    · rcases hS k hk with h1 | h1
      · exact .inl h1
      · exact .inr (List.mem_cons_of_mem _ h1))
  have key : ∀ (b : Nat) (u : World), W.heap.size ≤ b → Tn w1 u [b] → Tn W u (g :: S) := fun b u hb tu => t1.over tu (fun k hk => by rw [List.mem_singleton] at hk; subst hk; exact .inl hb)
  have nb : ∀ b k, W.heap.size ≤ b → k < W.heap.size → k ∉ [b] := fun b k hb hk => by simp; omega
  rcases H with ⟨h0, he, R, O⟩ | ⟨k, gm, a, q, y, R0, bd, he, R, O⟩
  · exact ⟨0, 0, 0, he, fun b u hb tu => ⟨key b u hb tu, .inl ⟨h0, rfl, rdt R tu (nb b c hb (fs.sl c fs.cS)) (nb b l hb (fs.sl l fs.lS)), ro_turn O tu (nb b r hb fs.rlt) (nb b cb hb fs.blt) (nb b g hb fs.glt)⟩⟩⟩
  · exact ⟨k, gm, a, he, fun b u hb tu => ⟨key b u hb tu, .inr ⟨k, gm, a, q, y, R0, bd, rfl, rdt R tu (nb b c hb (fs.sl c fs.cS)) (nb b l hb (fs.sl l fs.lS)), ro_turn O tu (nb b r hb fs.rlt) (nb b cb hb fs.blt) (nb b g hb fs.glt)⟩⟩⟩
theorem NP.mono {W : World} {S : List Nat} {c l : Nat} {s : ByteArray} {x : St} {o : PX} {Y Y2 : World → Prop} {e : Ending} {w' : World} (h : NP W S c l s x o Y e w') (k : o.f = 0 → Y w' → Y2 w') : NP W S c l s x o Y2 e w' := by
  obtain ⟨T, ⟨h0, h1, h2, h3, h4⟩ | h⟩ := h
  · exact ⟨T, .inl ⟨h0, h1, h2, h3, k h0 h4⟩⟩
  · exact ⟨T, .inr h⟩
theorem NP.perm {W : World} {S S2 : List Nat} {c l : Nat} {s : ByteArray} {x : St} {o : PX} {Y : World → Prop} {e : Ending} {w' : World} (h : NP W S c l s x o Y e w') (k : ∀ b, b ∈ S → b ∈ S2) : NP W S2 c l s x o Y e w' := ⟨h.1.mono k, h.2⟩

theorem snew_sca (m : Nat) (w : World) (m1 : 1 ≤ m) (m2 : m ≤ 65535) :
    Calls Tryz.prog 102 #[.int .i64 m] w fun e w' => ∃ b, e = .returned (.tuple #[.pointer (some ⟨b, 0, none⟩), .int .i64 0]) ∧ Sca b m 0 0 (.slice none 0 0) w' ∧ w.grownBy w' none ∧ w.heap.size ≤ b := by
  go_enter Tryz.func102, Tryz.ntmps102
  go_wp2
  go_ret2
  exact ⟨w.heap.size, rfl, blk_at, World.grownBy_alloc _ _ _, Nat.le_refl _⟩

/-- How many samples a raw pixel has: the kind 5 or 6. -/
def cntK (k : Nat) : Nat := if k = 6 then 3 else 1

set_option maxRecDepth 100000 in
set_option maxHeartbeats 4000000 in
theorem rsamples_calls (k c l r cb g : Nat) (s : ByteArray) (x : St) (w h m a0 : Nat) (a : Int) (W : World) (hk : k = 5 ∨ k = 6)
    (fs : FS W [c, l] c l r cb g) (hw : w ≤ 16384) (hh : h ≤ 16384) (hm : 1 ≤ m ∧ m ≤ 65535) (hr : x.r = 0) (R0 : Rd c l s a0 x W) (O0 : Ro r l cb g w h (rb [] (w * h)) W) :
    Calls Tryz.prog 71 #[.pointer (some ⟨c, 0, none⟩), .agg #[.int .i64 k, .int .i64 w, .int .i64 h, .int .i64 m, .int .i64 a], .pointer (some ⟨r, 0, none⟩)] W
      (FP2 W [c, l] c l r cb g s x w h (fz (fun _ b => rpV s m (sz m) (cntK k) b) a0 (w * h))) := by
  obtain ⟨Q, hQ⟩ : ∃ Q, FP2 W [c, l] c l r cb g s x w h (fz (fun _ b => rpV s m (sz m) (cntK k) b) a0 (w * h)) = Q := ⟨_, rfl⟩
  have hcw := fs.sl c fs.cS
  have hlw := fs.sl l fs.lS
  have hgw := fs.glt
  have KF : ∀ (u : World) (sb : Nat), W.grownBy u none → W.heap.size ≤ sb → Sca sb m 0 0 (.slice none 0 0) u → Calls Tryz.prog 61 #[.pointer (some ⟨c, 0, none⟩), .agg #[.int .i64 k, .int .i64 w, .int .i64 h, .int .i64 m, .int .i64 a], .pointer (some ⟨r, 0, none⟩), (.func (.func 104) #[.agg #[.pointer (some ⟨c, 0, none⟩), .bool (decide (255 < m)), .pointer (some ⟨sb, 0, none⟩), .int .i64 (cntK k : Int)]] #[])] u
      (fun e w' => ∃ k gm a : Int, e = .returned (.agg #[.int .i64 k, .int .i64 gm, .int .i64 a]) ∧ Tn u w' [g, c, l, sb] ∧ ∀ (b : Nat) (v : World), W.heap.size ≤ b → Tn w' v [b] → Q (.returned (.agg #[.int .i64 k, .int .i64 gm, .int .i64 a])) v) := by
    intro u sb gu hsb hsc
    have slt := hsc.lt
    have ul := gu.size
    have K := fill_raw [c, l, sb] c l r cb g s x w h k m a (fun _ b => rpV s m (sz m) (cntK k) b) a0 (fun _ v => Sq u.heap.size sb m v) (fun _ v => Sq u.heap.size sb m v) (decide (255 < m)) sb (cntK k : Int) u (fsMore fs ul hsb slt) hw hh hr (R0.grown gu) (ro_turn O0 (Tn.gb gu (S := []) (by simp)) (by simp) (by simp) (by simp)) ⟨Nat.le_refl _, .inl hsc⟩
      (fun _ _ _ q g => q.turned (Tn.gb g (S := []) (by simp)) (by simp) (by simp)) (fun _ _ _ q t => q.turned t (by simp; omega) (by simp; omega))
      (fun y x' z v _ _ _ _ R q => rpix_calls u.heap.size c l sb s z.a m (cntK k) _ _ v R hr hm (by unfold cntK; rcases hk with rfl | rfl <;> simp) q (by omega) (by omega) slt (by omega) (by omega))
    refine K.mono (fun e w' H => ?_)
    rw [← hQ]
    obtain ⟨k, gm, a, he, hf⟩ := FP2.end2 fs H (Tn.gb gu (by simp)) (fun k hk => by
      simp only [List.mem_cons, List.not_mem_nil, or_false] at hk ⊢
      omega)
    exact ⟨k, gm, a, he, H.1, hf⟩
  rw [hQ]
  have KF := Lib.hid KF
  have KS := Lib.hid (fun u => snew_sca m u hm.1 hm.2)
  have KC := Lib.hid (fun u => colors_calls (k : Int) u)
  have g0 := gb_trans (World.grownBy_alloc W (.cells #[.int .i64 k, .int .i64 w, .int .i64 h, .int .i64 m, .int .i64 a] 70) none) (World.grownBy_alloc _ (.cells #[.int .i64 0, .int .i64 0, .int .i64 0] 34) none)
  have H0 : Hc W.heap.size k w h m a ((W.alloc (.cells #[.int .i64 k, .int .i64 w, .int .i64 h, .int .i64 m, .int .i64 a] 70)).alloc (.cells #[.int .i64 0, .int .i64 0, .int .i64 0] 34)) := Hc.al blk_at _
  have F0 : Fl (W.heap.size + 1) 0 0 0 ((W.alloc (.cells #[.int .i64 k, .int .i64 w, .int .i64 h, .int .i64 m, .int .i64 a] 70)).alloc (.cells #[.int .i64 0, .int .i64 0, .int .i64 0] 34)) := by
    rw [← size_alloc W (.cells #[.int .i64 k, .int .i64 w, .int .i64 h, .int .i64 m, .int .i64 a] 70)]
    exact Fl.new _
  have HG0 := Lib.hid g0
  have HH0 := Lib.hid H0
  have HF0 := Lib.hid F0
  have hmf : ∀ (fn : Fn) (first cap : Array Value) (w : World), (Instr.makeFunc fn first cap).run Tryz.prog w = .ok (.func fn first cap) w := fun _ _ _ _ => rfl
  have c3W := H0.c3
  clear g0 H0 F0 fs R0 O0 hr hm hQ
  go_enter Tryz.func71, Tryz.ntmps71
  go_wp2_with fail
  generalize (W.alloc (.cells #[.int .i64 k, .int .i64 w, .int .i64 h, .int .i64 m, .int .i64 a] 70)).alloc (.cells #[.int .i64 0, .int .i64 0, .int .i64 0] 34) = w0 at HG0 HH0 HF0 c3W ⊢
  refine (KS.out _).mono ?_
  rintro e w1 ⟨sb, rfl, sc1, g1, hsb⟩
  have G1 := gb_trans HG0.out g1
  have H1 := HH0.out.turned (Tn.gb g1 (S := []) (by simp)) (by simp)
  have F1 := HF0.out.turned (Tn.gb g1 (S := []) (by simp)) (by simp)
  have q0 := H1.c0
  have q1 := H1.c1
  have q2 := H1.c2
  have q3 := H1.c3
  have q4 := H1.c4
  have hlt := H1.lt
  have flt := F1.lt
  have hs0 := HG0.out.size
  have HSB := Lib.hid (Nat.le_trans hs0 hsb)
  have HSB2 := Lib.hid (show W.heap.size + 1 < sb by have := HF0.out.lt; omega)
  have HSC := Lib.hid sc1
  have HG1 := Lib.hid G1
  have HH1 := Lib.hid H1
  have HF1 := Lib.hid F1
  clear sc1 G1 H1 F1 g1 c3W hs0 hsb
  obtain ⟨wd, hwd⟩ : ∃ wd, decide (255 < m) = wd := ⟨_, rfl⟩
  have hwd' : decide ((255 : Int) < (m : Int)) = wd := by
    rw [← hwd]
    exact decide_eq_decide.2 (by omega)
  rw [hwd] at KF
  rcases hk with rfl | rfl
  · have hcn : cntK 5 = 1 := rfl
    rw [hcn] at KF
    rw [show orB 3 6 ((5 : Nat) : Int) = false from by decide] at KC
    go_wp2_with fail
    refine (KC.out _).mono ?_
    rintro e w' ⟨rfl, rfl⟩
    go_wp2_with fail
    refine (KF.out _ sb ?_ HSB.out ?_).mono ?_
    · first
        | exact gb_trans HG1.out (World.grownBy_alloc _ _ none)
        | exact gb_own (gb_trans HG1.out (World.grownBy_alloc _ _ none)) HG1.out.size (gb_set _ _ _ _)
    · first
        | exact blk_al HSC.out _
        | exact blk_other (blk_al HSC.out _) (by have := blk_lt HSC.out; omega)
    rintro e w3 ⟨fk, fg, fa, rfl, T3, hfin⟩
    have g2 := World.grownBy_alloc w1 (.cells (sO c wd sb (1 : Nat)) 167) none
    have F3 := (Ph.Fl.al HF1.out (.cells (sO c wd sb (1 : Nat)) 167)).turned T3 (by simp; have := HSB2.out; omega)
    have r0 := F3.c0
    have r1 := F3.c1
    have r2 := F3.c2
    have f0 := F3.free 0
    have f1 := F3.free 1
    have f2 := F3.free 2
    have HFIN := Lib.hid hfin
    clear F3 T3 hfin g2
    go_wp2
    refine bodyPost_ret (v := .agg #[.int .i64 fk, .int .i64 fg, .int .i64 fa]) (by simp only [results, Tryz.results71]; go_simp) rfl ?_
    exact HFIN.out (W.heap.size + 1) _ (Nat.le_succ _) ((((Tn.refl _ _).st (by simp)).st (by simp)).st (by simp))
  · have hcn : cntK 6 = 3 := rfl
    rw [hcn] at KF
    rw [show orB 3 6 ((6 : Nat) : Int) = true from by decide] at KC
    go_wp2_with fail
    refine (KC.out _).mono ?_
    rintro e w' ⟨rfl, rfl⟩
    go_wp2_with fail
    refine (KF.out _ sb ?_ HSB.out ?_).mono ?_
    · first
        | exact gb_trans HG1.out (World.grownBy_alloc _ _ none)
        | exact gb_own (gb_trans HG1.out (World.grownBy_alloc _ _ none)) HG1.out.size (gb_set _ _ _ _)
    · first
        | exact blk_al HSC.out _
        | exact blk_other (blk_al HSC.out _) (by have := blk_lt HSC.out; omega)
    rintro e w3 ⟨fk, fg, fa, rfl, T3, hfin⟩
    have g2 := World.grownBy_alloc w1 (.cells (sO c wd sb (3 : Nat)) 167) none
    have F3 := (Ph.Fl.al HF1.out (.cells (sO c wd sb (3 : Nat)) 167)).turned T3 (by simp; have := HSB2.out; omega)
    have r0 := F3.c0
    have r1 := F3.c1
    have r2 := F3.c2
    have f0 := F3.free 0
    have f1 := F3.free 1
    have f2 := F3.free 2
    have HFIN := Lib.hid hfin
    clear F3 T3 hfin g2
    go_wp2
    refine bodyPost_ret (v := .agg #[.int .i64 fk, .int .i64 fg, .int .i64 fa]) (by simp only [results, Tryz.results71]; go_simp) rfl ?_
    exact HFIN.out (W.heap.size + 1) _ (Nat.le_succ _) ((((Tn.refl _ _).st (by simp)).st (by simp)).st (by simp))

theorem mod_succ' (i w : Nat) : (i + 1) % w = 0 ∨ (i + 1) % w = i % w + 1 := by
  rcases Nat.eq_zero_or_pos w with rfl | hw
  · exact .inr (by rw [Nat.mod_zero, Nat.mod_zero])
  · have h1 := Nat.mod_lt i hw
    have h2 := Nat.div_add_mod i w
    by_cases h : i % w + 1 < w
    · refine .inr ?_
      have e : i + 1 = w * (i / w) + (i % w + 1) := by omega
      rw [e, Nat.mul_add_mod, Nat.mod_eq_of_lt h]
    · refine .inl ?_
      have e : i + 1 = w * (i / w) + w := by omega
      rw [e, Nat.mul_add_mod, Nat.mod_self]

/-- What holds between two pixels of a bit each. -/
def BX (rb c bc sc : Nat) (s : ByteArray) (w : Nat) (P : Nat → Nat → PX) (a0 : Nat) (i : Nat) (u : World) : Prop :=
  ∃ left, left ≤ 7 ∧ BL rb c bc sc s (fz P a0 i).a left u ∧ (i % w = 0 ∨ left = (8 - i % w % 8) % 8)
def BY (rb c bc sc : Nat) (s : ByteArray) (w : Nat) (P : Nat → Nat → PX) (a0 : Nat) (i : Nat) (u : World) : Prop :=
  (fz P a0 i).f = 0 ∧ (P i (fz P a0 i).a).f = 0 ∧ BL rb c bc sc s (P i (fz P a0 i).a).a (7 - i % w % 8) u
theorem BY.next {rb c bc sc : Nat} {s : ByteArray} {w : Nat} {P : Nat → Nat → PX} {a0 i : Nat} {u u' : World} {S : List Nat} (h : BY rb c bc sc s w P a0 i u) (t : Tn u u' S) (h1 : rb ∉ S) (h2 : bc ∉ S) (h3 : sc ∉ S) : BX rb c bc sc s w P a0 (i + 1) u' := by
  obtain ⟨z0, p0, B⟩ := h
  refine ⟨7 - i % w % 8, by omega, ?_, ?_⟩
  · rw [fz_yes z0 p0]
    exact B.turned t h1 h2 h3
  · rcases mod_succ' i w with h | h
    · exact .inl h
    · rw [h]
      exact .inr (by omega)

set_option maxRecDepth 100000 in
set_option maxHeartbeats 4000000 in
theorem rbits_calls (c l r cb g : Nat) (s : ByteArray) (x : St) (w h a0 : Nat) (m a : Int) (W : World)
    (fs : FS W [c, l] c l r cb g) (hw : w ≤ 16384) (hh : h ≤ 16384) (hr : x.r = 0) (R0 : Rd c l s a0 x W) (O0 : Ro r l cb g w h (rb [] (w * h)) W) :
    Calls Tryz.prog 70 #[.pointer (some ⟨c, 0, none⟩), .agg #[.int .i64 4, .int .i64 w, .int .i64 h, .int .i64 m, .int .i64 a], .pointer (some ⟨r, 0, none⟩)] W
      (FP2 W [c, l] c l r cb g s x w h (fz (bpV s w) a0 (w * h))) := by
  obtain ⟨Q, hQ⟩ : ∃ Q, FP2 W [c, l] c l r cb g s x w h (fz (bpV s w) a0 (w * h)) = Q := ⟨_, rfl⟩
  have hcw := fs.sl c fs.cS
  have hlw := fs.sl l fs.lS
  have hgw := fs.glt
  have hrS := fs.rlt
  have hbS := fs.blt
  have KF : ∀ (u : World) (rb bc sc : Nat), W.grownBy u none → W.heap.size ≤ rb → W.heap.size ≤ bc → W.heap.size ≤ sc → bc ≠ rb → sc ≠ rb → BL rb c bc sc s a0 0 u → rb < u.heap.size → Calls Tryz.prog 61 #[.pointer (some ⟨c, 0, none⟩), .agg #[.int .i64 4, .int .i64 w, .int .i64 h, .int .i64 m, .int .i64 a], .pointer (some ⟨r, 0, none⟩), (.func (.func 98) #[] #[.pointer (some ⟨bc, 0, none⟩), .pointer (some ⟨sc, 0, none⟩)])] u
      (fun e w' => ∃ k gm a : Int, e = .returned (.agg #[.int .i64 k, .int .i64 gm, .int .i64 a]) ∧ Tn u w' [g, c, l, rb] ∧ ∀ (b : Nat) (v : World), W.heap.size ≤ b → Tn w' v [b] → Q (.returned (.agg #[.int .i64 k, .int .i64 gm, .int .i64 a])) v) := by
    intro u rb bc sc gu hrb hbc hsc nbr nsr B hru
    have ul := gu.size
    have n1 : rb ∉ [l, g] := by simp; omega
    have n2 : bc ∉ [l, g] := by simp; omega
    have n3 : sc ∉ [l, g] := by simp; omega
    have K := fill_bits [c, l, rb] c l r cb g s x w h 4 m a (bpV s w) a0 (BX rb c bc sc s w (bpV s w) a0) (BY rb c bc sc s w (bpV s w) a0) bc sc u (fsMore fs ul hrb hru) hw hh hr (R0.grown gu) (ro_turn O0 (Tn.gb gu (S := []) (by simp)) (by simp) (by simp) (by simp)) ⟨0, by omega, B, .inl (Nat.zero_mod _)⟩
      (fun i v v' ⟨left, h7, hB, hx⟩ gg => ⟨left, h7, hB.turned (Tn.gb gg (S := []) (by simp)) (by simp) (by simp) (by simp), hx⟩) (fun i v v' hY t => hY.next t n1 n2 n3)
      (fun y x' z v hy hx hz z0 R ⟨left, h7, hB, hxx⟩ => by
        have hmod : (y * w + x') % w = x' := by rw [Nat.mul_comm, Nat.mul_add_mod, Nat.mod_eq_of_lt hx]
        rw [hz] at hB
        have up : ∀ e w', NP v [rb, c, l] c l s (stp x (z.n + (y * w + x'))) (bpV s w (y * w + x') z.a) (fun w' => BL rb c bc sc s (bpV s w (y * w + x') z.a).a (7 - x' % 8) w') e w' → NP v [c, l, rb] c l s (stp x (z.n + (y * w + x'))) (bpV s w (y * w + x') z.a) (BY rb c bc sc s w (bpV s w) a0 (y * w + x')) e w' := fun e w' H =>
          (H.mono (fun h0 hb => ⟨by rw [hz]; exact z0, by rw [hz]; exact h0, by rw [hz, hmod]; exact hb⟩)).perm (by simp)
        by_cases h0 : x' = 0
        · exact (bink_calls0 rb c l bc sc s w (y * w + x') x' z.a left _ v hmod R hr hB (by omega) (by omega) (by simp; omega) (by simp; omega) h0).mono up
        · have hleft : left = (8 - x' % 8) % 8 := by
            rcases hxx with h1 | h1
            · omega
            · rw [hmod] at h1
              exact h1
          exact (bink_calls rb c l bc sc s w (y * w + x') x' z.a left _ v hmod R hr hB (by omega) (by omega) (by simp; omega) (by simp; omega) h0 hleft).mono up)
    refine K.mono (fun e w' H => ?_)
    rw [← hQ]
    obtain ⟨k, gm, a, he, hf⟩ := FP2.end2 fs H (Tn.gb gu (by simp)) (fun k hk => by
      simp only [List.mem_cons, List.not_mem_nil, or_false] at hk ⊢
      omega)
    exact ⟨k, gm, a, he, H.1, hf⟩
  rw [hQ]
  have KF := Lib.hid KF
  have KS := Lib.hid (fun u => bnew_calls c false u)
  have g0 := gb_trans (gb_trans (World.grownBy_alloc W (.cells #[.pointer (some ⟨c, 0, none⟩)] 65) none) (World.grownBy_alloc _ (.cells #[.int .i64 4, .int .i64 w, .int .i64 h, .int .i64 m, .int .i64 a] 70) none)) (World.grownBy_alloc _ (.cells #[.int .i64 0, .int .i64 0, .int .i64 0] 34) none)
  have z1 := size_alloc W (.cells #[.pointer (some ⟨c, 0, none⟩)] 65)
  have z2 := size_alloc (W.alloc (.cells #[.pointer (some ⟨c, 0, none⟩)] 65)) (.cells #[.int .i64 4, .int .i64 w, .int .i64 h, .int .i64 m, .int .i64 a] 70)
  have C0 : (((W.alloc (.cells #[.pointer (some ⟨c, 0, none⟩)] 65)).alloc (.cells #[.int .i64 4, .int .i64 w, .int .i64 h, .int .i64 m, .int .i64 a] 70)).alloc (.cells #[.int .i64 0, .int .i64 0, .int .i64 0] 34)).heap[W.heap.size]? = some (.cells #[.pointer (some ⟨c, 0, none⟩)] 65 (0, 0)) := blk_al (blk_al blk_at _) _
  have H0 : Hc (W.heap.size + 1) 4 w h m a (((W.alloc (.cells #[.pointer (some ⟨c, 0, none⟩)] 65)).alloc (.cells #[.int .i64 4, .int .i64 w, .int .i64 h, .int .i64 m, .int .i64 a] 70)).alloc (.cells #[.int .i64 0, .int .i64 0, .int .i64 0] 34)) := by
    rw [← z1]
    exact Hc.al blk_at _
  have F0 : Fl (W.heap.size + 1 + 1) 0 0 0 (((W.alloc (.cells #[.pointer (some ⟨c, 0, none⟩)] 65)).alloc (.cells #[.int .i64 4, .int .i64 w, .int .i64 h, .int .i64 m, .int .i64 a] 70)).alloc (.cells #[.int .i64 0, .int .i64 0, .int .i64 0] 34)) := by
    rw [← z1, ← z2]
    exact Fl.new _
  have HG0 := Lib.hid g0
  have HC0 := Lib.hid C0
  have HH0 := Lib.hid H0
  have HF0 := Lib.hid F0
  have hmf : ∀ (fn : Fn) (first cap : Array Value) (w : World), (Instr.makeFunc fn first cap).run Tryz.prog w = .ok (.func fn first cap) w := fun _ _ _ _ => rfl
  have scW : _ = some (Value.pointer (some ⟨c, 0, none⟩)) := blk_cell C0 0
  clear g0 C0 H0 F0 fs R0 O0 hr hQ z1 z2
  go_enter Tryz.func70, Tryz.ntmps70
  go_wp2_with fail
  generalize ((W.alloc (.cells #[.pointer (some ⟨c, 0, none⟩)] 65)).alloc (.cells #[.int .i64 4, .int .i64 w, .int .i64 h, .int .i64 m, .int .i64 a] 70)).alloc (.cells #[.int .i64 0, .int .i64 0, .int .i64 0] 34) = w0 at HG0 HC0 HH0 HF0 scW ⊢
  refine (KS.out _).mono ?_
  rintro e w1 ⟨rb, rfl, hB, g1, hrb⟩
  have G1 := gb_trans HG0.out g1
  have C1 := (g1.block _ (blk_lt HC0.out) (by simp)).trans HC0.out
  have H1 := HH0.out.turned (Tn.gb g1 (S := []) (by simp)) (by simp)
  have F1 := HF0.out.turned (Tn.gb g1 (S := []) (by simp)) (by simp)
  have sc1 : w1.cell? ⟨W.heap.size, 0, none⟩ = some (.pointer (some ⟨c, 0, none⟩)) := blk_cell C1 0
  have q0 := H1.c0
  have q1 := H1.c1
  have q2 := H1.c2
  have q3 := H1.c3
  have q4 := H1.c4
  have hclt := blk_lt C1
  have hlt := H1.lt
  have flt := F1.lt
  have f0lt := HF0.out.lt
  have hs0 := HG0.out.size
  have hB1 := hB (by omega)
  have hrlt := hB1.lt
  have HRB := Lib.hid hrb
  have HBT := Lib.hid hB1
  have HG1 := Lib.hid G1
  have HC1 := Lib.hid C1
  have HF1 := Lib.hid F1
  clear hB G1 C1 H1 F1 g1 scW hB1 hs0 hrb
  go_wp2_with fail
  refine (KF.out _ rb w1.heap.size W.heap.size ?_ ?_ ?_ (Nat.le_refl _) ?_ ?_ ?_ ?_).mono ?_
  · exact gb_trans HG1.out (World.grownBy_alloc _ _ none)
  · have := HRB.out
    omega
  · omega
  · omega
  · have := HRB.out
    omega
  · exact ⟨⟨0, HBT.out.grown (World.grownBy_alloc _ _ none) (by simp), fun h => absurd h (by decide)⟩, blk_at, blk_al HC1.out _⟩
  · rw [size_alloc]
    omega
  rintro e w3 ⟨fk, fg, fa, rfl, T3, hfin⟩
  have F3 := (Ph.Fl.al HF1.out (.cells #[.pointer (some ⟨rb, 0, none⟩)] 159)).turned T3 (by simp; have := HRB.out; omega)
  have r0 := F3.c0
  have r1 := F3.c1
  have r2 := F3.c2
  have f0 := F3.free 0
  have f1 := F3.free 1
  have f2 := F3.free 2
  have HFIN := Lib.hid hfin
  clear F3 T3 hfin
  go_wp2
  refine bodyPost_ret (v := .agg #[.int .i64 fk, .int .i64 fg, .int .i64 fa]) (by simp only [results, Tryz.results70]; go_simp) rfl ?_
  exact HFIN.out (W.heap.size + 1 + 1) _ (by omega) ((((Tn.refl _ _).st (by simp)).st (by simp)).st (by simp))

/-- What the pixels of a raw file tell. -/
def rawZ (s : ByteArray) (k m w a0 N : Nat) : PS := if k = 4 then fz (bpV s w) a0 N else fz (fun _ b => rpV s m (sz m) (cntK k) b) a0 N

set_option maxRecDepth 100000 in
set_option maxHeartbeats 4000000 in
theorem rawread_calls (k c l r cb g : Nat) (s : ByteArray) (x : St) (w h m a0 : Nat) (a : Int) (W : World) (hk : k = 4 ∨ k = 5 ∨ k = 6)
    (fs : FS W [c, l] c l r cb g) (hw : w ≤ 16384) (hh : h ≤ 16384) (hm : 1 ≤ m ∧ m ≤ 65535) (hr : x.r = 0) (R0 : Rd c l s a0 x W) (O0 : Ro r l cb g w h (rb [] (w * h)) W) :
    Calls Tryz.prog 47 #[.pointer (some ⟨c, 0, none⟩), .agg #[.int .i64 k, .int .i64 w, .int .i64 h, .int .i64 m, .int .i64 a], .pointer (some ⟨r, 0, none⟩)] W
      (FP2 W [c, l] c l r cb g s x w h (rawZ s k m w a0 (w * h))) := by
  obtain ⟨Q, hQ⟩ : ∃ Q, FP2 W [c, l] c l r cb g s x w h (rawZ s k m w a0 (w * h)) = Q := ⟨_, rfl⟩
  have hcw := fs.sl c fs.cS
  have hlw := fs.sl l fs.lS
  have hgw := fs.glt
  have g0 := gb_trans (World.grownBy_alloc W (.cells #[.int .i64 k, .int .i64 w, .int .i64 h, .int .i64 m, .int .i64 a] 70) none) (World.grownBy_alloc _ (.cells #[.int .i64 0, .int .i64 0, .int .i64 0] 34) none)
  have H0 : Hc W.heap.size k w h m a ((W.alloc (.cells #[.int .i64 k, .int .i64 w, .int .i64 h, .int .i64 m, .int .i64 a] 70)).alloc (.cells #[.int .i64 0, .int .i64 0, .int .i64 0] 34)) := Hc.al blk_at _
  have F0 : Fl (W.heap.size + 1) 0 0 0 ((W.alloc (.cells #[.int .i64 k, .int .i64 w, .int .i64 h, .int .i64 m, .int .i64 a] 70)).alloc (.cells #[.int .i64 0, .int .i64 0, .int .i64 0] 34)) := by
    rw [← size_alloc W (.cells #[.int .i64 k, .int .i64 w, .int .i64 h, .int .i64 m, .int .i64 a] 70)]
    exact Fl.new _
  have done : ∀ u, W.grownBy u none → ∀ e w', FP2 u [c, l] c l r cb g s x w h (rawZ s k m w a0 (w * h)) e w' →
      ∃ k gm a : Int, e = .returned (.agg #[.int .i64 k, .int .i64 gm, .int .i64 a]) ∧ Tn u w' [g, c, l] ∧ ∀ (b : Nat) (v : World), W.heap.size ≤ b → Tn w' v [b] → Q (.returned (.agg #[.int .i64 k, .int .i64 gm, .int .i64 a])) v := by
    intro u gu e w' H
    rw [← hQ]
    obtain ⟨k, gm, a, he, hf⟩ := FP2.end2 fs H (Tn.gb gu (by simp)) (fun k hk => .inr hk)
    exact ⟨k, gm, a, he, H.1, hf⟩
  rw [hQ]
  have KB := Lib.hid (fun u => xbitmap_calls (k : Int) u)
  have HG0 := Lib.hid g0
  have HH0 := Lib.hid H0
  have HF0 := Lib.hid F0
  have q0 := H0.c0
  have q1 := H0.c1
  have q2 := H0.c2
  have q3 := H0.c3
  have q4 := H0.c4
  rcases hk with rfl | hk
  · have K := rbits_calls c l r cb g s x w h a0 (m : Int) a _ (fsUp fs g0.size) hw hh hr (R0.grown g0) (ro_turn O0 (Tn.gb g0 (S := []) (by simp)) (by simp) (by simp) (by simp))
    have K2 := K.mono (fun e w' H => done _ g0 e w' H)
    have KK := Lib.hid K2
    rw [show orB 1 4 ((4 : Nat) : Int) = true from by decide] at KB
    clear g0 H0 F0 fs R0 O0 hr hm hQ K K2 done
    go_enter Tryz.func47, Tryz.ntmps47
    go_wp2_with fail
    generalize (W.alloc (.cells #[.int .i64 (4 : Nat), .int .i64 w, .int .i64 h, .int .i64 m, .int .i64 a] 70)).alloc (.cells #[.int .i64 0, .int .i64 0, .int .i64 0] 34) = w0 at HG0 HH0 HF0 q0 q1 q2 q3 q4 KK ⊢
    refine (KB.out _).mono ?_
    rintro e w' ⟨rfl, rfl⟩
    go_wp2_with fail
    refine KK.out.mono ?_
    rintro e w3 ⟨fk, fg, fa, rfl, T3, hfin⟩
    have F3 := HF0.out.turned T3 (by simp; omega)
    have r0 := F3.c0
    have r1 := F3.c1
    have r2 := F3.c2
    have f0 := F3.free 0
    have f1 := F3.free 1
    have f2 := F3.free 2
    have HFIN := Lib.hid hfin
    clear F3 T3 hfin
    go_wp2
    refine bodyPost_ret (v := .agg #[.int .i64 fk, .int .i64 fg, .int .i64 fa]) (by simp only [results, Tryz.results47]; go_simp) rfl ?_
    exact HFIN.out (W.heap.size + 1) _ (Nat.le_succ _) ((((Tn.refl _ _).st (by simp)).st (by simp)).st (by simp))
  · have K := rsamples_calls k c l r cb g s x w h m a0 a _ hk (fsUp fs g0.size) hw hh hm hr (R0.grown g0) (ro_turn O0 (Tn.gb g0 (S := []) (by simp)) (by simp) (by simp) (by simp))
    rw [show fz (fun _ b => rpV s m (sz m) (cntK k) b) a0 (w * h) = rawZ s k m w a0 (w * h) from by unfold rawZ; rw [if_neg (by omega)]] at K
    have K2 := K.mono (fun e w' H => done _ g0 e w' H)
    have KK := Lib.hid K2
    rw [show orB 1 4 ((k : Nat) : Int) = false from by rw [orB_not]; omega] at KB
    clear g0 H0 F0 fs R0 O0 hr hm hQ K K2 done hk
    go_enter Tryz.func47, Tryz.ntmps47
    go_wp2_with fail
    generalize (W.alloc (.cells #[.int .i64 k, .int .i64 w, .int .i64 h, .int .i64 m, .int .i64 a] 70)).alloc (.cells #[.int .i64 0, .int .i64 0, .int .i64 0] 34) = w0 at HG0 HH0 HF0 q0 q1 q2 q3 q4 KK ⊢
    refine (KB.out _).mono ?_
    rintro e w' ⟨rfl, rfl⟩
    go_wp2_with fail
    refine KK.out.mono ?_
    rintro e w3 ⟨fk, fg, fa, rfl, T3, hfin⟩
    have F3 := HF0.out.turned T3 (by simp; omega)
    have r0 := F3.c0
    have r1 := F3.c1
    have r2 := F3.c2
    have f0 := F3.free 0
    have f1 := F3.free 1
    have f2 := F3.free 2
    have HFIN := Lib.hid hfin
    clear F3 T3 hfin
    go_wp2
    refine bodyPost_ret (v := .agg #[.int .i64 fk, .int .i64 fg, .int .i64 fa]) (by simp only [results, Tryz.results47]; go_simp) rfl ?_
    exact HFIN.out (W.heap.size + 1) _ (Nat.le_succ _) ((((Tn.refl _ _).st (by simp)).st (by simp)).st (by simp))

end Go.Proofs.YtcfdippcobkbaaaGreat.Px

/- A file is read as a whole: what comes of it. -/
namespace Go.Proofs.YtcfdippcobkbaaaGreat.Px
open Go.ChangeShapes Go.WideShapes Go.ChangeAt Go.RowKit
open Go.Proofs.YtcfdippcobkbaaaGreat.Le Go.Proofs.YtcfdippcobkbaaaGreat.Tk Go.Proofs.YtcfdippcobkbaaaGreat.Sc Go.Proofs.YtcfdippcobkbaaaGreat.Sr Go.Proofs.YtcfdippcobkbaaaGreat.Ph Go.Proofs.YtcfdippcobkbaaaGreat.Ra
set_option linter.unusedVariables false

def img0 : Value := .agg #[.int .i64 0, .int .i64 0, .slice none 0 0]
/-- What comes of a reading: the image, the fault, the ledger behind it; n0 steps are the head's, wk the budget's. -/
def Rn (W : World) (s : ByteArray) (wk : Int) (n0 w h : Nat) (z : PS) (img fault : Value) (l : Nat) (ok : Bool) (w' : World) : Prop :=
  ∃ y : St, Led l y.ls w' ∧ y.Ok ∧ y.s = wk ∧ W.grownBy w' none ∧
    ((z.f = 0 ∧ ok = true ∧ (∃ g, img = .agg #[.int .i64 w, .int .i64 h, .slice (some ⟨g, 0, none⟩) (4 * (w * h)) (4 * (w * h))] ∧ w'.heap[g]? = some (.cells (Bu.bys (rb z.l (w * h))) 5 (0, 0))) ∧ fault = okF ∧ y.r = 0 ∧ y.st = ((n0 + z.n + w * h : Nat) : Int)) ∨
     (z.f ≠ 0 ∧ ok = true ∧ img = img0 ∧ fault = .agg #[.int .i64 z.f, .int .i64 3, .int .i64 z.p] ∧ y.r = 0 ∧ y.st = ((n0 + z.n + z.l.length : Nat) : Int)) ∨
     (wk < ((n0 + z.n + z.l.length : Nat) : Int) ∧ img = img0 ∧ (∃ q : Nat, q ≤ s.size ∧ fault = .agg #[.int .i64 4, .int .i64 3, .int .i64 q]) ∧ y.r = 3 ∧ y.st = wk))

/-- A ledger of which n bytes are taken. -/
def tk (x : St) (n : Int) : St := { x with by_ := x.by_ + n, pk := up x.pk (x.by_ + n) }
theorem tk_take {x : St} {n : Int} (hr : x.r = 0) (h0 : 0 ≤ n) (hn : n ≤ x.b - x.by_) : x.take n = (tk x n, true) := by
  unfold St.take
  rw [if_neg (fun h => h hr), if_neg (by omega)]
  rfl
theorem tk_ok {x : St} {n : Int} (ok : x.Ok) (hr : x.r = 0) (h0 : 0 ≤ n) (hn : n ≤ x.b - x.by_) : (tk x n).Ok := by
  have := ok.take n
  rw [tk_take hr h0 hn] at this
  exact this
theorem sides_ok {x : St} {a b : Int} (hr : x.r = 0) (a1 : 1 ≤ a) (a2 : a ≤ x.w) (b1 : 1 ≤ b) (b2 : b ≤ x.h) : x.sides a b = (x, true) := by
  unfold St.sides
  rw [if_neg (fun h => h hr), if_neg (by omega), if_neg (by omega)]

/-- The results' blocks of a reading: an image, a fault. -/
structure RB (W w : World) : Prop where
  im : w.heap[W.heap.size]? = some (.cells #[.int .i64 0, .int .i64 0, .slice none 0 0] 32 (0, 0))
  fl : Fl (W.heap.size + 1) 0 0 0 w
  g : W.grownBy w none
theorem RB.new (W : World) : RB W ((W.alloc (.cells #[.int .i64 0, .int .i64 0, .slice none 0 0] 32)).alloc (.cells #[.int .i64 0, .int .i64 0, .int .i64 0] 34)) := by
  refine ⟨blk_al blk_at _, ?_, gb_trans (World.grownBy_alloc _ _ _) (World.grownBy_alloc _ _ _)⟩
  rw [← size_alloc W (.cells #[.int .i64 0, .int .i64 0, .slice none 0 0] 32)]
  exact Fl.new _
section
variable {W w w' : World}
theorem RB.turned {S : List Nat} (h : RB W w) (t : Tn w w' S) (hS : ∀ k, k ∈ S → W.heap.size + 1 < k) : RB W w' := by
  refine ⟨(t.block _ (blk_lt h.im) (fun hk => ?_)).trans h.im, h.fl.turned t (fun hk => ?_), Tn.own h.g t (fun k hk => .inl (by have := hS k hk; omega))⟩
  · have := hS _ hk
    omega
  · have := hS _ hk
    omega
theorem RB.gb (h : RB W w) (g : w.grownBy w' none) : RB W w' := h.turned (Tn.gb g (S := []) (by simp)) (by simp)
theorem RB.lt (h : RB W w) : W.heap.size + 1 < w.heap.size := h.fl.lt
theorem RB.i0 (h : RB W w) : w.cell? ⟨W.heap.size, 0, none⟩ = some (.int .i64 0) := blk_cell h.im 0
theorem RB.i1 (h : RB W w) : w.cell? ⟨W.heap.size, 1, none⟩ = some (.int .i64 0) := blk_cell h.im 1
theorem RB.i2 (h : RB W w) : w.cell? ⟨W.heap.size, 2, none⟩ = some (.slice none 0 0) := blk_cell h.im 2
theorem RB.ifr (h : RB W w) (o : Nat) : w.frozen? ⟨W.heap.size, o, none⟩ = false := blk_free h.im o
/-- Both are laid. -/
theorem RB.end {v0 v1 v2 u0 u1 u2 : Value} (h : RB W w) : W.grownBy ((((((w.setCell ⟨W.heap.size, 0, none⟩ v0).setCell ⟨W.heap.size, 1, none⟩ v1).setCell ⟨W.heap.size, 2, none⟩ v2).setCell ⟨W.heap.size + 1, 0, none⟩ u0).setCell ⟨W.heap.size + 1, 1, none⟩ u1).setCell ⟨W.heap.size + 1, 2, none⟩ u2) none :=
  gb_own3 (gb_own3 h.g (Nat.le_refl _)) (Nat.le_succ _)
theorem RB.tn {v0 v1 v2 u0 u1 u2 : Value} (w : World) : Tn w ((((((w.setCell ⟨W.heap.size, 0, none⟩ v0).setCell ⟨W.heap.size, 1, none⟩ v1).setCell ⟨W.heap.size, 2, none⟩ v2).setCell ⟨W.heap.size + 1, 0, none⟩ u0).setCell ⟨W.heap.size + 1, 1, none⟩ u1).setCell ⟨W.heap.size + 1, 2, none⟩ u2) [W.heap.size, W.heap.size + 1] :=
  ((((((Tn.refl w _).st (by simp)).st (by simp)).st (by simp)).st (by simp)).st (by simp)).st (by simp)
end
/-- How a filling by a ledger of which the head's steps are done ends, as a reading does. -/
theorem rn_bad {s : ByteArray} {x x1 : St} {n0 : Nat} {wk : Int} {z : PS} {k gm a : Int} {q : Nat} {y : St} (h : BD s x1 z.f z.p (z.n + z.l.length) k gm a q y) (hs : x1.s = wk) (hst : x1.st = (n0 : Int)) (hr : x1.r = 0) :
    y.s = wk ∧ ((z.f ≠ 0 ∧ (.agg #[.int .i64 k, .int .i64 gm, .int .i64 a] : Value) = .agg #[.int .i64 z.f, .int .i64 3, .int .i64 z.p] ∧ y.r = 0 ∧ y.st = ((n0 + z.n + z.l.length : Nat) : Int)) ∨
      (wk < ((n0 + z.n + z.l.length : Nat) : Int) ∧ (∃ q : Nat, q ≤ s.size ∧ (.agg #[.int .i64 k, .int .i64 gm, .int .i64 a] : Value) = .agg #[.int .i64 4, .int .i64 3, .int .i64 q]) ∧ y.r = 3 ∧ y.st = wk)) := by
  obtain ⟨hq, ⟨e1, e2, e3, e4, e5⟩ | ⟨e1, e2, e3, e4, e5⟩⟩ := h
  · subst e2
    subst e3
    subst e4
    subst e5
    refine ⟨hs, .inl ⟨e1, rfl, hr, ?_⟩⟩
    rw [stp_st, hst]
    omega
  · subst e2
    subst e3
    subst e4
    subst e5
    refine ⟨hs, .inr ⟨by omega, ⟨q, hq, rfl⟩, rfl, hs⟩⟩

theorem tread_calls (k c l r cb g : Nat) (s : ByteArray) (x : St) (w h m a0 : Nat) (a : Int) (W : World) (hk : k = 1 ∨ k = 2 ∨ k = 3)
    (fs : FS W [c, l] c l r cb g) (hw : w ≤ 16384) (hh : h ≤ 16384) (hm : 1 ≤ m ∧ m ≤ 65535) (hr : x.r = 0) (R0 : Rd c l s a0 x W) (O0 : Ro r l cb g w h (rb [] (w * h)) W) :
    Calls Tryz.prog 38 #[.pointer (some ⟨c, 0, none⟩), .agg #[.int .i64 k, .int .i64 w, .int .i64 h, .int .i64 m, .int .i64 a], .pointer (some ⟨r, 0, none⟩)] W
      (FP2 W [c, l] c l r cb g s x w h (pxs s k m a0 (w * h))) := by
  rcases hk with rfl | rfl | rfl
  · exact tread1_calls c l r cb g s x w h m a0 a W fs hw hh hm hr R0 O0
  · exact tread2_calls c l r cb g s x w h m a0 a W fs hw hh hm hr R0 O0
  · exact tread3_calls c l r cb g s x w h m a0 a W fs hw hh hm hr R0 O0

end Go.Proofs.YtcfdippcobkbaaaGreat.Px

/- The chapters' examples, as plain functions tell them. -/
namespace Go.Proofs.YtcfdippcobkbaaaGreat.Px
open Go.ChangeShapes Go.WideShapes Go.ChangeAt Go.RowKit
open Go.Proofs.YtcfdippcobkbaaaGreat.Le Go.Proofs.YtcfdippcobkbaaaGreat.Tk Go.Proofs.YtcfdippcobkbaaaGreat.Sc Go.Proofs.YtcfdippcobkbaaaGreat.Sr Go.Proofs.YtcfdippcobkbaaaGreat.Ph Go.Proofs.YtcfdippcobkbaaaGreat.Ra
set_option linter.unusedVariables false

def exT : ByteArray := ⟨#[80, 49, 10, 50, 32, 49, 10, 49, 32, 48, 10]⟩
def exW : ByteArray := ⟨#[80, 52, 10, 57, 32, 49, 10, 128, 128]⟩
def exF : ByteArray := ⟨#[80, 53, 32, 49, 32, 49, 32, 50, 53, 53, 10, 65]⟩
set_option maxRecDepth 100000 in
theorem exT_head : readV exT = ⟨1, 2, 1, 1, 6, 0, 0⟩ := by kernel_rfl
set_option maxRecDepth 100000 in
theorem exT_n : readN exT ≤ 20 := readN_le exT
set_option maxRecDepth 100000 in
theorem exT_px : (pxs exT 1 1 6 2).f = 0 ∧ (pxs exT 1 1 6 2).l = [(0, 0, 0), (255, 255, 255)] ∧ (pxs exT 1 1 6 2).n = 6 := ⟨by kernel_rfl, by kernel_rfl, by kernel_rfl⟩
set_option maxRecDepth 100000 in
theorem exW_head : readV exW = ⟨4, 9, 1, 1, 7, 0, 0⟩ := by kernel_rfl
set_option maxRecDepth 100000 in
theorem exW_px : (rawZ exW 4 1 9 7 9).f = 0 ∧ (rawZ exW 4 1 9 7 9).l = [(0, 0, 0), (255, 255, 255), (255, 255, 255), (255, 255, 255), (255, 255, 255), (255, 255, 255), (255, 255, 255), (255, 255, 255), (0, 0, 0)] ∧ (rawZ exW 4 1 9 7 9).n = 2 := ⟨by kernel_rfl, by kernel_rfl, by kernel_rfl⟩
set_option maxRecDepth 100000 in
theorem exF_head : readV exF = ⟨5, 1, 1, 255, 11, 0, 0⟩ := by kernel_rfl
set_option maxRecDepth 100000 in
theorem exF_px : (rawZ exF 5 255 1 11 1).f = 0 ∧ (rawZ exF 5 255 1 11 1).l = [(65, 65, 65)] ∧ (rawZ exF 5 255 1 11 1).n = 1 := ⟨by kernel_rfl, by kernel_rfl, by kernel_rfl⟩

end Go.Proofs.YtcfdippcobkbaaaGreat.Px

/- Pixels that are read: what holds of them, and how many readings they take. -/
namespace Go.Proofs.YtcfdippcobkbaaaGreat.Px
open Go.ChangeShapes Go.WideShapes Go.ChangeAt Go.RowKit
open Go.Proofs.YtcfdippcobkbaaaGreat.Le Go.Proofs.YtcfdippcobkbaaaGreat.Tk Go.Proofs.YtcfdippcobkbaaaGreat.Sc Go.Proofs.YtcfdippcobkbaaaGreat.Sr Go.Proofs.YtcfdippcobkbaaaGreat.Ph Go.Proofs.YtcfdippcobkbaaaGreat.Ra
set_option linter.unusedVariables false

/-- All samples have eight bits. -/
def L255 (l : List (Nat × Nat × Nat)) : Prop := ∀ t, t ∈ l → t.1 ≤ 255 ∧ t.2.1 ≤ 255 ∧ t.2.2 ≤ 255
theorem L255.snoc {l : List (Nat × Nat × Nat)} {t : Nat × Nat × Nat} (h : L255 l) (ht : t.1 ≤ 255 ∧ t.2.1 ≤ 255 ∧ t.2.2 ≤ 255) : L255 (l ++ [t]) := by
  intro u hu
  rcases List.mem_append.1 hu with h1 | h1
  · exact h u h1
  · rw [List.mem_singleton] at h1
    subst h1
    exact ht
theorem getD_le {vs : List Nat} (h : ∀ v ∈ vs, v ≤ 255) (i : Nat) : vs.getD i 0 ≤ 255 := by
  rw [List.getD_eq_getElem?_getD]
  cases e : vs[i]? with
  | none => exact Nat.zero_le _
  | some v => exact h v (List.mem_of_getElem? e)
/-- What holds of a pixel. -/
def PG (s : ByteArray) (a K : Nat) (o : PX) : Prop :=
  (o.f ≠ 0 ∧ o.f < 3 ∧ o.p ≤ s.size ∧ o.n ≤ s.size - a + K) ∨ (o.f = 0 ∧ a ≤ o.a ∧ o.a ≤ s.size ∧ (o.r ≤ 255 ∧ o.g ≤ 255 ∧ o.b ≤ 255) ∧ o.n ≤ o.a - a + K)
theorem sms_gd (s : ByteArray) (m a : Nat) (ha : a ≤ s.size) (hm : 1 ≤ m) : ∀ i, (∀ v ∈ (sms s m a i).vs, v ≤ 255) ∧
    ((sms s m a i).f = 0 → a ≤ (sms s m a i).a ∧ (sms s m a i).a ≤ s.size ∧ (sms s m a i).n ≤ (sms s m a i).a - a + 2 * i) ∧
    ((sms s m a i).f ≠ 0 → (sms s m a i).f < 3 ∧ (sms s m a i).p ≤ s.size ∧ (sms s m a i).n ≤ s.size - a + 2 * i)
  | 0 => ⟨fun v hv => (by cases hv), fun _ => ⟨Nat.le_refl _, ha, Nat.zero_le _⟩, fun h => absurd rfl h⟩
  | i + 1 => by
    obtain ⟨h1, h2, h3⟩ := sms_gd s m a ha hm i
    obtain ⟨z, hz⟩ : ∃ z, sms s m a i = z := ⟨_, rfl⟩
    rw [sms_succ, hz]
    rw [hz] at h1 h2 h3
    by_cases hf : z.f = 0
    · obtain ⟨g1, g2, g3⟩ := h2 hf
      rcases smp_gd s m z.a g2 hm with ⟨e1, e2, e3, e4⟩ | ⟨e1, e2, e3, e4, e5⟩
      · rw [ss_fault hf e1]
        exact ⟨h1, fun h => absurd h e1, fun _ => ⟨e2, e3, by show z.n + _ ≤ _; omega⟩⟩
      · rw [ss_yes hf e1]
        refine ⟨fun v hv => ?_, fun _ => ⟨by show a ≤ (smpV s m z.a).a; omega, e3, by show z.n + _ ≤ (smpV s m z.a).a - a + _; omega⟩, fun h => absurd rfl h⟩
        rcases List.mem_append.1 hv with h | h
        · exact h1 v h
        · rw [List.mem_singleton] at h
          subst h
          exact e4
    · rw [ss_stay hf]
      obtain ⟨g1, g2, g3⟩ := h3 hf
      exact ⟨h1, fun h => absurd h hf, fun _ => ⟨g1, g2, by omega⟩⟩
theorem px_gd (s : ByteArray) (k m a : Nat) (ha : a ≤ s.size) (hm : 1 ≤ m) : PG s a 6 (pxV s k m a) := by
  by_cases hk : k = 1
  · subst hk
    rw [px1_is]
    rcases bit_gd s a ha with ⟨e1, e2, e3, e4⟩ | ⟨e1, e2, e3, e4, e5⟩
    · exact .inl ⟨e1, e2, e3, by show (bitV s a).n ≤ _; omega⟩
    · exact .inr ⟨e1, by show a ≤ (bitV s a).a; omega, e3, ⟨e4, e4, e4⟩, by show (bitV s a).n ≤ (bitV s a).a - a + _; omega⟩
  · have hs : spp k ≤ 3 := by
      unfold spp
      split <;> omega
    obtain ⟨h1, h2, h3⟩ := sms_gd s m a ha hm (spp k)
    unfold pxV
    rw [if_neg hk]
    by_cases hf : (sms s m a (spp k)).f = 0
    · obtain ⟨g1, g2, g3⟩ := h2 hf
      exact .inr ⟨hf, g1, g2, ⟨getD_le h1 _, getD_le h1 _, getD_le h1 _⟩, by show (sms s m a (spp k)).n ≤ (sms s m a (spp k)).a - a + 6; omega⟩
    · obtain ⟨g1, g2, g3⟩ := h3 hf
      exact .inl ⟨hf, g1, g2, by show (sms s m a (spp k)).n ≤ _; omega⟩
/-- All pixels so far. -/
theorem fz_gd (s : ByteArray) (P : Nat → Nat → PX) (a0 K N : Nat) (ha : a0 ≤ s.size) (hP : ∀ i, i < N → (fz P a0 i).f = 0 → (fz P a0 i).a ≤ s.size → PG s (fz P a0 i).a K (P i (fz P a0 i).a)) : ∀ i, i ≤ N → L255 (fz P a0 i).l ∧ (fz P a0 i).l.length ≤ i ∧
    ((fz P a0 i).f = 0 → a0 ≤ (fz P a0 i).a ∧ (fz P a0 i).a ≤ s.size ∧ (fz P a0 i).n ≤ (fz P a0 i).a - a0 + K * i) ∧
    ((fz P a0 i).f ≠ 0 → (fz P a0 i).f < 3 ∧ (fz P a0 i).p ≤ s.size ∧ (fz P a0 i).n ≤ s.size - a0 + K * i)
  | 0, _ => ⟨fun v hv => (by cases hv), Nat.le_refl _, fun _ => ⟨Nat.le_refl _, ha, Nat.zero_le _⟩, fun h => absurd rfl h⟩
  | i + 1, hi => by
    obtain ⟨h1, h0, h2, h3⟩ := fz_gd s P a0 K N ha hP i (by omega)
    have hPi := hP i hi
    obtain ⟨z, hz⟩ : ∃ z, fz P a0 i = z := ⟨_, rfl⟩
    rw [fz_succ, hz]
    rw [hz] at h1 h0 h2 h3 hPi
    rw [Nat.mul_succ]
    by_cases hf : z.f = 0
    · obtain ⟨g1, g2, g3⟩ := h2 hf
      rcases hPi hf g2 with ⟨e1, e2, e3, e4⟩ | ⟨e1, e2, e3, e4, e5⟩
      · rw [step_fault hf e1]
        exact ⟨h1, by show z.l.length ≤ _; omega, fun h => absurd h e1, fun _ => ⟨e2, e3, by show z.n + _ ≤ _; omega⟩⟩
      · rw [step_yes hf e1]
        refine ⟨h1.snoc e4, ?_, fun _ => ⟨by show a0 ≤ (P i z.a).a; omega, e3, by show z.n + _ ≤ (P i z.a).a - a0 + _; omega⟩, fun h => absurd rfl h⟩
        show (z.l ++ [_]).length ≤ _
        rw [List.length_append]
        show z.l.length + 1 ≤ _
        omega
    · rw [step_stay hf]
      obtain ⟨g1, g2, g3⟩ := h3 hf
      exact ⟨h1, by omega, fun h => absurd h hf, fun _ => ⟨g1, g2, by omega⟩⟩
theorem pxs_gd (s : ByteArray) (k m a0 N : Nat) (ha : a0 ≤ s.size) (hm : 1 ≤ m) : L255 (pxs s k m a0 N).l ∧ (pxs s k m a0 N).l.length ≤ N ∧ (pxs s k m a0 N).n ≤ s.size + 6 * N ∧ (pxs s k m a0 N).f < 3 ∧ (pxs s k m a0 N).p ≤ s.size := by
  have h := fz_gd s (fun _ b => pxV s k m b) a0 6 N ha (fun i _ _ h => px_gd s k m _ h hm) N (Nat.le_refl _)
  rw [fz_pxs] at h
  obtain ⟨h1, h0, h2, h3⟩ := h
  by_cases hf : (pxs s k m a0 N).f = 0
  · obtain ⟨g1, g2, g3⟩ := h2 hf
    refine ⟨h1, h0, by omega, by omega, ?_⟩
    have hp : ∀ i, (pxs s k m a0 i).f = 0 → (pxs s k m a0 i).p = 0 := by
      intro i hi
      cases i with
      | zero => rfl
      | succ i =>
        rw [← fz_pxs] at hi ⊢
        have z0 := fz_back hi (Nat.le_succ i)
        by_cases ho : (pxV s k m (fz (fun _ b => pxV s k m b) a0 i).a).f = 0
        · rw [fz_yes z0 ho]
        · rw [fz_fault z0 ho] at hi
          exact absurd hi ho
    rw [hp N hf]
    exact Nat.zero_le _
  · obtain ⟨g1, g2, g3⟩ := h3 hf
    exact ⟨h1, h0, by omega, g1, g2⟩

/-- Raw pixels. -/
theorem srs_gd (s : ByteArray) (m z a : Nat) (ha : a ≤ s.size) (hm : 1 ≤ m) : ∀ i, (∀ v ∈ (srs s m z a i).vs, v ≤ 255) ∧ (srs s m z a i).n ≤ i ∧
    ((srs s m z a i).f = 0 → (srs s m z a i).a = a + i * z ∧ (srs s m z a i).a ≤ s.size ∧ (srs s m z a i).n = i) ∧
    ((srs s m z a i).f ≠ 0 → (srs s m z a i).f < 3 ∧ (srs s m z a i).p ≤ s.size)
  | 0 => ⟨fun v hv => (by cases hv), Nat.le_refl _, fun _ => ⟨by show a = a + 0 * z; omega, ha, rfl⟩, fun h => absurd rfl h⟩
  | i + 1 => by
    obtain ⟨h1, h0, h2, h3⟩ := srs_gd s m z a ha hm i
    obtain ⟨y, hy⟩ : ∃ y, srs s m z a i = y := ⟨_, rfl⟩
    rw [srs_succ, hy]
    rw [hy] at h1 h0 h2 h3
    have hn := rs_n s m z y.a
    by_cases hf : y.f = 0
    · obtain ⟨g1, g2, g3⟩ := h2 hf
      by_cases e1 : s.size < y.a + z
      · have e : rsV s m z y.a = ⟨1, s.size, 0, 0, 1⟩ := by
          unfold rsV
          rw [if_pos e1]
        rw [e, ss_fault hf Nat.one_ne_zero]
        exact ⟨h1, by show y.n + 1 ≤ _; omega, fun h => absurd h Nat.one_ne_zero, fun _ => ⟨by show 1 < 3; decide, Nat.le_refl _⟩⟩
      · by_cases e2 : m < Sr.numV true (s.extract y.a (y.a + z))
        · have e : rsV s m z y.a = ⟨2, y.a, 0, 0, 1⟩ := by
            unfold rsV
            rw [if_neg e1, if_pos e2]
          rw [e, ss_fault hf (show (2 : Nat) ≠ 0 by decide)]
          exact ⟨h1, by show y.n + 1 ≤ _; omega, fun h => absurd h (show (2 : Nat) ≠ 0 by decide), fun _ => ⟨by show 2 < 3; decide, g2⟩⟩
        · have e : rsV s m z y.a = ⟨0, 0, y.a + z, nearN (Sr.numV true (s.extract y.a (y.a + z))) m, 1⟩ := by
            unfold rsV
            rw [if_neg e1, if_neg e2]
          rw [e, ss_yes hf rfl]
          refine ⟨fun v hv => ?_, by show y.n + 1 ≤ _; omega, fun _ => ⟨?_, by show y.a + z ≤ _; omega, by show y.n + 1 = _; omega⟩, fun h => absurd rfl h⟩
          · rcases List.mem_append.1 hv with h | h
            · exact h1 v h
            · rw [List.mem_singleton] at h
              subst h
              exact nearN_le hm (by omega)
          · show y.a + z = a + (i + 1) * z
            rw [g1, Nat.add_mul, Nat.one_mul, Nat.add_assoc]
    · rw [ss_stay hf]
      exact ⟨h1, by omega, fun h => absurd h hf, h3⟩
theorem rp_gd (s : ByteArray) (m z n a : Nat) (ha : a ≤ s.size) (hm : 1 ≤ m) (hn : n ≤ 3) : PG s a 3 (rpV s m z n a) := by
  obtain ⟨h1, h0, h2, h3⟩ := srs_gd s m z a ha hm n
  unfold rpV
  by_cases hf : (srs s m z a n).f = 0
  · obtain ⟨g1, g2, g3⟩ := h2 hf
    exact .inr ⟨hf, by show a ≤ (srs s m z a n).a; omega, g2, ⟨getD_le h1 _, getD_le h1 _, getD_le h1 _⟩, by show (srs s m z a n).n ≤ _; omega⟩
  · obtain ⟨g1, g2⟩ := h3 hf
    exact .inl ⟨hf, g1, g2, by show (srs s m z a n).n ≤ _; omega⟩
theorem bp_gd (s : ByteArray) (w i a : Nat) (ha : a ≤ s.size) : PG s a 3 (bpV s w i a) := by
  have hb : ∀ b q, rawB s b q ≤ 255 := fun b q => by
    unfold rawB
    omega
  unfold bpV
  split
  · split
    · exact .inl ⟨Nat.one_ne_zero, by show 1 < 3; decide, Nat.le_refl _, by show 1 ≤ _; omega⟩
    · exact .inr ⟨rfl, by show a ≤ a + 1; omega, by show a + 1 ≤ _; omega, ⟨hb _ _, hb _ _, hb _ _⟩, by show 1 ≤ _; omega⟩
  · exact .inr ⟨rfl, Nat.le_refl _, ha, ⟨hb _ _, hb _ _, hb _ _⟩, by show 0 ≤ _; omega⟩
theorem rp_n (s : ByteArray) (m z n a : Nat) (hn : n ≤ 3) : (rpV s m z n a).n ≤ 3 := by
  have : ∀ i, (srs s m z a i).n ≤ i := by
    intro i
    induction i with
    | zero => exact Nat.le_refl _
    | succ i ih =>
      rw [srs_succ]
      have h1 := rs_n s m z (srs s m z a i).a
      unfold SS.step
      split
      · omega
      · split
        · show (srs s m z a i).n + _ ≤ _
          omega
        · show (srs s m z a i).n + _ ≤ _
          omega
  exact Nat.le_trans (this n) hn
theorem bp_n (s : ByteArray) (w i a : Nat) : (bpV s w i a).n ≤ 3 := by
  unfold bpV
  split
  · split
    · show 1 ≤ 3
      decide
    · show 1 ≤ 3
      decide
  · show 0 ≤ 3
    decide
theorem cntK_le (k : Nat) : cntK k ≤ 3 := by
  unfold cntK
  split <;> decide
theorem rawZ_gd (s : ByteArray) (k m w a0 N : Nat) (ha : a0 ≤ s.size) (hm : 1 ≤ m) : L255 (rawZ s k m w a0 N).l ∧ (rawZ s k m w a0 N).l.length ≤ N ∧ (rawZ s k m w a0 N).n ≤ 3 * N ∧ (rawZ s k m w a0 N).f < 3 ∧ ((rawZ s k m w a0 N).f ≠ 0 → (rawZ s k m w a0 N).p ≤ s.size) := by
  unfold rawZ
  split
  · obtain ⟨h1, h0, h2, h3⟩ := fz_gd s (bpV s w) a0 3 N ha (fun i _ _ h => bp_gd s w i _ h) N (Nat.le_refl _)
    refine ⟨h1, h0, fz_most (bp_n s w) N, ?_, fun h => (h3 h).2.1⟩
    by_cases hf : (fz (bpV s w) a0 N).f = 0
    · omega
    · exact (h3 hf).1
  · obtain ⟨h1, h0, h2, h3⟩ := fz_gd s (fun _ b => rpV s m (sz m) (cntK k) b) a0 3 N ha (fun i _ _ h => rp_gd s m (sz m) (cntK k) _ h hm (cntK_le k)) N (Nat.le_refl _)
    refine ⟨h1, h0, fz_most (fun i a => rp_n s m (sz m) (cntK k) a (cntK_le k)) N, ?_, fun h => (h3 h).2.1⟩
    by_cases hf : (fz (fun _ b => rpV s m (sz m) (cntK k) b) a0 N).f = 0
    · omega
    · exact (h3 hf).1

end Go.Proofs.YtcfdippcobkbaaaGreat.Px

/- Raw pixels: those that the program reads are the document's. -/
namespace Go.Proofs.YtcfdippcobkbaaaGreat.Px
open Go.ChangeShapes Go.WideShapes Go.ChangeAt Go.RowKit
open Go.Proofs.YtcfdippcobkbaaaGreat.Le Go.Proofs.YtcfdippcobkbaaaGreat.Tk Go.Proofs.YtcfdippcobkbaaaGreat.Sc Go.Proofs.YtcfdippcobkbaaaGreat.Sr Go.Proofs.YtcfdippcobkbaaaGreat.Ph Go.Proofs.YtcfdippcobkbaaaGreat.Ra
set_option linter.unusedVariables false

theorem dm_succ (i w : Nat) (hw : 0 < w) : ((i + 1) / w = i / w ∧ (i + 1) % w = i % w + 1 ∧ i % w + 1 < w) ∨ ((i + 1) / w = i / w + 1 ∧ (i + 1) % w = 0 ∧ i % w + 1 = w) := by
  have h1 := Nat.mod_lt i hw
  have h2 := Nat.div_add_mod i w
  by_cases h : i % w + 1 < w
  · have e : i + 1 = i % w + 1 + w * (i / w) := by omega
    refine .inl ⟨?_, ?_, h⟩
    · rw [e, Nat.add_mul_div_left _ _ hw, Nat.div_eq_of_lt h, Nat.zero_add]
    · rw [e, Nat.add_mul_mod_self_left, Nat.mod_eq_of_lt h]
  · have hm : w * (i / w + 1) = w * (i / w) + w := by rw [Nat.mul_add, Nat.mul_one]
    have e : i + 1 = w * (i / w + 1) := by omega
    refine .inr ⟨?_, ?_, by omega⟩
    · rw [e, Nat.mul_div_cancel_left _ hw]
    · rw [e, Nat.mul_mod_right]
/-- The same fault, the same pixels. -/
def Eqv (z z' : PS) : Prop := z.f = z'.f ∧ z.p = z'.p ∧ z.l = z'.l
theorem eqv_step {z z' : PS} {o o' : PX} (h : Eqv z z') (h1 : z.f = 0 → o.f = o'.f) (h2 : z.f = 0 → o.f ≠ 0 → o.p = o'.p) (h3 : z.f = 0 → o.f = 0 → o.r = o'.r ∧ o.g = o'.g ∧ o.b = o'.b) : Eqv (z.step o) (z'.step o') := by
  obtain ⟨e1, e2, e3⟩ := h
  by_cases hz : z.f = 0
  · have f1 := h1 hz
    by_cases ho : o.f = 0
    · obtain ⟨g1, g2, g3⟩ := h3 hz ho
      rw [step_yes hz ho, step_yes (by rw [← e1]; exact hz) (by rw [← f1]; exact ho)]
      exact ⟨rfl, rfl, by show z.l ++ _ = z'.l ++ _; rw [e3, g1, g2, g3]⟩
    · rw [step_fault hz ho, step_fault (by rw [← e1]; exact hz) (by rw [← f1]; exact ho)]
      exact ⟨f1, h2 hz ho, e3⟩
  · rw [step_stay hz, step_stay (by rw [← e1]; exact hz)]
    exact ⟨e1, e2, e3⟩
theorem srs_rms (s : ByteArray) (m z b : Nat) : ∀ i, (srs s m z b i).f = (rms s m z b i).f ∧ (srs s m z b i).p = (rms s m z b i).p ∧ (srs s m z b i).vs = (rms s m z b i).vs ∧ ((srs s m z b i).f = 0 → (srs s m z b i).a = b + i * z)
  | 0 => ⟨rfl, rfl, rfl, fun _ => by show b = b + 0 * z; omega⟩
  | i + 1 => by
    obtain ⟨h1, h2, h3, h4⟩ := srs_rms s m z b i
    rw [srs_succ, show rms s m z b (i + 1) = (rms s m z b i).step (rawS s m z (b + i * z)) from rfl]
    by_cases hf : (srs s m z b i).f = 0
    · have ha := h4 hf
      rw [ha]
      have hf' : (rms s m z b i).f = 0 := by rw [← h1]; exact hf
      have hs : (rsV s m z (b + i * z)).f = (rawS s m z (b + i * z)).f ∧ (rsV s m z (b + i * z)).p = (rawS s m z (b + i * z)).p ∧ (rsV s m z (b + i * z)).v = (rawS s m z (b + i * z)).v ∧ ((rsV s m z (b + i * z)).f = 0 → (rsV s m z (b + i * z)).a = b + i * z + z) := by
        unfold rsV rawS
        split
        · exact ⟨rfl, rfl, rfl, fun h => absurd h Nat.one_ne_zero⟩
        · split
          · exact ⟨rfl, rfl, rfl, fun h => absurd h (show (2 : Nat) ≠ 0 by decide)⟩
          · exact ⟨rfl, rfl, rfl, fun _ => rfl⟩
      obtain ⟨s1, s2, s3, s4⟩ := hs
      by_cases ho : (rsV s m z (b + i * z)).f = 0
      · rw [ss_yes hf ho, ss_yes hf' (by rw [← s1]; exact ho)]
        refine ⟨rfl, rfl, by show _ ++ _ = _ ++ _; rw [h3, s3], fun _ => ?_⟩
        show (rsV s m z (b + i * z)).a = _
        rw [s4 ho, Nat.add_mul, Nat.one_mul, Nat.add_assoc]
      · rw [ss_fault hf ho, ss_fault hf' (by rw [← s1]; exact ho)]
        exact ⟨s1, s2, h3, fun h => absurd h ho⟩
    · rw [ss_stay hf, ss_stay (by rw [← h1]; exact hf)]
      exact ⟨h1, h2, h3, fun h => absurd h hf⟩
theorem cnt_is (k : Nat) : cnt k = cntK k := rfl
theorem raw56_eqv (s : ByteArray) (k m a0 w : Nat) (hk : k = 5 ∨ k = 6) (hw : 0 < w) : ∀ i, Eqv (fz (fun _ b => rpV s m (sz m) (cntK k) b) a0 i) (rxs s k m a0 (w * cntK k * sz m) w i) ∧ ((fz (fun _ b => rpV s m (sz m) (cntK k) b) a0 i).f = 0 → (fz (fun _ b => rpV s m (sz m) (cntK k) b) a0 i).a = a0 + i * cntK k * sz m)
  | 0 => ⟨⟨rfl, rfl, rfl⟩, fun _ => by show a0 = a0 + 0 * cntK k * sz m; rw [Nat.zero_mul, Nat.zero_mul, Nat.add_zero]⟩
  | i + 1 => by
    obtain ⟨h1, h4⟩ := raw56_eqv s k m a0 w hk hw i
    obtain ⟨zz, hzz⟩ : ∃ zz, sz m = zz := ⟨_, rfl⟩
    obtain ⟨z, hz⟩ : ∃ z, fz (fun _ b => rpV s m (sz m) (cntK k) b) a0 i = z := ⟨_, rfl⟩
    rw [fz_succ, hz, show rxs s k m a0 (w * cntK k * sz m) w (i + 1) = (rxs s k m a0 (w * cntK k * sz m) w i).step (rawX s k m (a0 + i / w * (w * cntK k * sz m)) (i % w)) from rfl]
    rw [hz] at h1 h4
    rw [hzz] at h1 h4 ⊢
    have hk4 : ¬ k = 4 := by omega
    have hn3 : ∀ j, (if k = 6 then j else 0) = (if cntK k = 3 then j else 0) := fun j => by
      unfold cntK
      rcases hk with rfl | rfl <;> simp
    have hb : a0 + i / w * (w * cntK k * zz) + i % w * cntK k * zz = a0 + i * cntK k * zz := by
      have h2 := Nat.div_add_mod i w
      have e : i * cntK k * zz = (w * (i / w) + i % w) * cntK k * zz := by rw [h2]
      rw [e, Nat.add_mul, Nat.add_mul, ← Nat.add_assoc]
      congr 2
      rw [Nat.mul_comm w (i / w), Nat.mul_assoc, Nat.mul_assoc, Nat.mul_assoc]
    have hX : rawX s k m (a0 + i / w * (w * cntK k * zz)) (i % w) = ⟨(rms s m zz (a0 + i * cntK k * zz) (cntK k)).f, (rms s m zz (a0 + i * cntK k * zz) (cntK k)).p, 0, (rms s m zz (a0 + i * cntK k * zz) (cntK k)).vs.getD 0 0, (rms s m zz (a0 + i * cntK k * zz) (cntK k)).vs.getD (if cntK k = 3 then 1 else 0) 0, (rms s m zz (a0 + i * cntK k * zz) (cntK k)).vs.getD (if cntK k = 3 then 2 else 0) 0, 0⟩ := by
      unfold rawX
      rw [if_neg hk4, hzz, cnt_is, hb, hn3, hn3]
    rw [hX]
    have hR : z.f = 0 → z.a = a0 + i * cntK k * zz := h4
    refine ⟨eqv_step h1 (fun hf => ?_) (fun hf _ => ?_) (fun hf _ => ?_), fun hf => ?_⟩
    · rw [hR hf]
      exact (srs_rms s m zz _ (cntK k)).1
    · rw [hR hf]
      exact (srs_rms s m zz _ (cntK k)).2.1
    · rw [hR hf]
      have e := (srs_rms s m zz (a0 + i * cntK k * zz) (cntK k)).2.2.1
      refine ⟨?_, ?_, ?_⟩
      · show (srs s m zz _ _).vs.getD 0 0 = _
        rw [e]
      · show (srs s m zz _ _).vs.getD _ 0 = _
        rw [e]
      · show (srs s m zz _ _).vs.getD _ 0 = _
        rw [e]
    · by_cases hf0 : z.f = 0
      · by_cases ho : (rpV s m zz (cntK k) z.a).f = 0
        · rw [step_yes hf0 ho]
          show (srs s m zz z.a (cntK k)).a = _
          rw [(srs_rms s m zz z.a (cntK k)).2.2.2 ho, hR hf0, Nat.add_mul i 1, Nat.one_mul, Nat.add_mul, Nat.add_assoc]
        · rw [step_fault hf0 ho] at hf
          exact absurd hf ho
      · rw [step_stay hf0] at hf
        exact absurd hf hf0
theorem raw4_eqv (s : ByteArray) (m a0 w N : Nat) (hw : 0 < w) (ha : a0 ≤ s.size) : ∀ i, i ≤ N → Eqv (fz (bpV s w) a0 i) (rxs s 4 m a0 ((w + 7) / 8) w i) ∧ ((fz (bpV s w) a0 i).f = 0 → (fz (bpV s w) a0 i).a = a0 + i / w * ((w + 7) / 8) + (i % w + 7) / 8)
  | 0, _ => ⟨⟨rfl, rfl, rfl⟩, fun _ => by
      show a0 = a0 + 0 / w * _ + (0 % w + 7) / 8
      rw [Nat.zero_div, Nat.zero_mul, Nat.zero_mod]
      omega⟩
  | i + 1, hi => by
    obtain ⟨h1, h4⟩ := raw4_eqv s m a0 w N hw ha i (by omega)
    have hgd := (fz_gd s (bpV s w) a0 3 N ha (fun i _ _ h => bp_gd s w i _ h) i (by omega)).2.2.1
    obtain ⟨z, hz⟩ : ∃ z, fz (bpV s w) a0 i = z := ⟨_, rfl⟩
    rw [fz_succ, hz, show rxs s 4 m a0 ((w + 7) / 8) w (i + 1) = (rxs s 4 m a0 ((w + 7) / 8) w i).step (rawX s 4 m (a0 + i / w * ((w + 7) / 8)) (i % w)) from rfl]
    rw [hz] at h1 h4 hgd
    obtain ⟨fr, hfr⟩ : ∃ fr, a0 + i / w * ((w + 7) / 8) = fr := ⟨_, rfl⟩
    obtain ⟨x, hx⟩ : ∃ x, i % w = x := ⟨_, rfl⟩
    rw [hfr, hx] at h4
    rw [hfr, hx]
    have hX : rawX s 4 m fr x = if s.size ≤ fr + x / 8 then ⟨1, s.size, 0, 0, 0, 0, 0⟩ else ⟨0, 0, 0, rawB s (fr + x / 8) (x % 8), rawB s (fr + x / 8) (x % 8), rawB s (fr + x / 8) (x % 8), 0⟩ := rfl
    rw [hX]
    have hB : bpV s w i z.a = if x % 8 = 0 then (if s.size ≤ z.a then ⟨1, s.size, 0, 0, 0, 0, 1⟩ else ⟨0, 0, z.a + 1, rawB s z.a 0, rawB s z.a 0, rawB s z.a 0, 1⟩) else ⟨0, 0, z.a, rawB s (z.a - 1) (x % 8), rawB s (z.a - 1) (x % 8), rawB s (z.a - 1) (x % 8), 0⟩ := by
      unfold bpV
      rw [hx]
    have key : z.f = 0 → ((bpV s w i z.a).f ≠ 0 ∧ s.size ≤ fr + x / 8 ∧ bpV s w i z.a = ⟨1, s.size, 0, 0, 0, 0, 1⟩) ∨ (¬ s.size ≤ fr + x / 8 ∧ ∃ n, bpV s w i z.a = ⟨0, 0, fr + x / 8 + 1, rawB s (fr + x / 8) (x % 8), rawB s (fr + x / 8) (x % 8), rawB s (fr + x / 8) (x % 8), n⟩) := by
      intro hf
      have ea := h4 hf
      obtain ⟨g1, g2, _⟩ := hgd hf
      rw [hB]
      by_cases h8 : x % 8 = 0
      · rw [if_pos h8]
        have e : z.a = fr + x / 8 := by omega
        rw [e]
        by_cases hs : s.size ≤ fr + x / 8
        · rw [if_pos hs]
          exact .inl ⟨Nat.one_ne_zero, hs, rfl⟩
        · rw [if_neg hs, h8]
          exact .inr ⟨hs, 1, rfl⟩
      · rw [if_neg h8]
        have e : z.a = fr + x / 8 + 1 := by omega
        rw [e, Nat.add_sub_cancel]
        exact .inr ⟨by omega, 0, rfl⟩
    refine ⟨eqv_step h1 (fun hf => ?_) (fun hf ho => ?_) (fun hf ho => ?_), fun hf => ?_⟩
    · rcases key hf with ⟨k1, k2, k3⟩ | ⟨k1, n, k3⟩
      · rw [k3, if_pos k2]
      · rw [k3, if_neg k1]
    · rcases key hf with ⟨k1, k2, k3⟩ | ⟨k1, n, k3⟩
      · rw [k3, if_pos k2]
      · rw [k3] at ho
        exact absurd rfl ho
    · rcases key hf with ⟨k1, k2, k3⟩ | ⟨k1, n, k3⟩
      · exact absurd ho k1
      · rw [k3, if_neg k1]
        exact ⟨rfl, rfl, rfl⟩
    · by_cases hf0 : z.f = 0
      · rcases key hf0 with ⟨k1, k2, k3⟩ | ⟨k1, n, k3⟩
        · rw [step_fault hf0 k1] at hf
          exact absurd hf k1
        · rw [step_yes hf0 (by rw [k3])]
          show (bpV s w i z.a).a = _
          rw [k3]
          show fr + x / 8 + 1 = _
          rcases dm_succ i w hw with ⟨d1, d2, d3⟩ | ⟨d1, d2, d3⟩
          · rw [d1, d2, hfr, hx]
            omega
          · rw [d1, d2, Nat.add_mul, Nat.one_mul]
            rw [hx] at d3
            omega
      · rw [step_stay hf0] at hf
        exact absurd hf hf0

theorem rawZ_rxs (s : ByteArray) (k m w a0 N : Nat) (hk : k = 4 ∨ k = 5 ∨ k = 6) (hw : 0 < w) (ha : a0 ≤ s.size) : Eqv (rawZ s k m w a0 N) (rxs s k m a0 (rowV k w m) w N) := by
  rcases hk with rfl | hk
  · exact (raw4_eqv s m a0 w N hw ha N (Nat.le_refl _)).1
  · have h := (raw56_eqv s k m a0 w hk hw N).1
    have e1 : rawZ s k m w a0 N = fz (fun _ b => rpV s m (sz m) (cntK k) b) a0 N := by
      unfold rawZ
      rw [if_neg (by omega)]
    have e2 : rowV k w m = w * cntK k * sz m := by
      rcases hk with rfl | rfl
      · show w * (if 255 < m then 2 else 1) = w * 1 * (if 255 < m then 2 else 1)
        rw [Nat.mul_one]
      · show 3 * w * (if 255 < m then 2 else 1) = w * 3 * (if 255 < m then 2 else 1)
        rw [Nat.mul_comm 3 w]
    rw [e1, e2]
    exact h

end Go.Proofs.YtcfdippcobkbaaaGreat.Px

/- The document's Read, of each kind. -/
namespace Go.Proofs.YtcfdippcobkbaaaGreat.Px
open Go.ChangeShapes Go.WideShapes Go.ChangeAt Go.RowKit
open Go.Proofs.YtcfdippcobkbaaaGreat.Le Go.Proofs.YtcfdippcobkbaaaGreat.Tk Go.Proofs.YtcfdippcobkbaaaGreat.Sc Go.Proofs.YtcfdippcobkbaaaGreat.Sr Go.Proofs.YtcfdippcobkbaaaGreat.Ph Go.Proofs.YtcfdippcobkbaaaGreat.Ra
set_option linter.unusedVariables false

theorem Eqv.refl (z : PS) : Eqv z z := ⟨rfl, rfl, rfl⟩
theorem rtext_any (s : ByteArray) (k w h m a : Nat) (W : World) (hs : s.size ≤ 9223372036854775806) (hg : HG s k w h m a) (hk : k ≤ 3) (hN : w * h ≤ 1000000) :
    Calls Tryz.prog 10 #[.string s, .agg #[.int .i64 k, .int .i64 w, .int .i64 h, .int .i64 m, .int .i64 a, .int .i64 0, .int .i64 0]] W (DP W w h (pxs s k m a (w * h))) := by
  have h1 := hg.k1
  obtain rfl | rfl | rfl : k = 1 ∨ k = 2 ∨ k = 3 := by omega
  · exact rtext1_calls s w h m a 0 0 W hs hg.le hN
  · exact rtext2_calls s w h m a 0 0 W hs hg.le hN ⟨hg.m1, hg.m2⟩
  · exact rtext3_calls s w h m a 0 0 W hs hg.le hN ⟨hg.m1, hg.m2⟩
theorem rraw_any (s : ByteArray) (k w h m a : Nat) (W : World) (hs : s.size ≤ 600) (hg : HG s k w h m a) (hk : 4 ≤ k) (hw : w ≤ 100) (hh : h ≤ 100) :
    Calls Tryz.prog 17 #[.string s, .agg #[.int .i64 k, .int .i64 w, .int .i64 h, .int .i64 m, .int .i64 a, .int .i64 0, .int .i64 0]] W (DP W w h (rxs s k m a (rowV k w m) w (w * h))) := by
  have h1 := hg.k6
  have ha := hg.le
  by_cases h4 : k = 4
  · subst h4
    exact rraw4_calls s w h m a 0 0 W (by omega) (by omega) (by omega) (by omega) (by have := hg.m2; omega)
  · exact rraw56_calls s k w h m a 0 0 W (by omega) (by omega) (by omega) (by omega) (by omega) ⟨hg.m1, hg.m2⟩

theorem rawZ_len (s : ByteArray) (k m w a N : Nat) (h : (rawZ s k m w a N).f = 0) : (rawZ s k m w a N).l.length = N := by
  unfold rawZ at h ⊢
  by_cases hk : k = 4
  · rw [if_pos hk] at h ⊢
    exact fz_len N h
  · rw [if_neg hk] at h ⊢
    exact fz_len N h

end Go.Proofs.YtcfdippcobkbaaaGreat.Px
