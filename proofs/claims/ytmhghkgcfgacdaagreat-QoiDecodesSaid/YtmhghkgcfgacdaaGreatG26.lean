/- Texts of one kind, one behind the other: Qs0, Qo1, Qo2, Qo3, Qo4, Qo5. -/
import Derived.BigRegion
import Derived.Deep.Cut
import Derived.Deep.RegionHeld3
import Derived.Test.YtmhghkgcfgacdaaGreatG10
import Derived.Test.YtmhghkgcfgacdaaGreatG16
import Derived.Test.YtmhghkgcfgacdaaGreatG25
/- Layer 26, pure: what a text's steps make. -/
namespace Go.Proofs.YtmhghkgcfgacdaaGreat.Qo
open Go.Proofs.YtmhghkgcfgacdaaGreat.Tk Go.Proofs.YtmhghkgcfgacdaaGreat.Qw Go.Proofs.YtmhghkgcfgacdaaGreat.Sh
set_option linter.unusedVariables false

structure C4 where
  r : Nat
  g : Nat
  b : Nat
  a : Nat
def C4.ch (c : C4) (j : Nat) : Nat := match j with
  | 0 => c.r
  | 1 => c.g
  | 2 => c.b
  | _ => c.a
def C4.ok (c : C4) : Prop := c.r < 256 ∧ c.g < 256 ∧ c.b < 256 ∧ c.a < 256
theorem C4.ch_lt {c : C4} (h : c.ok) (j : Nat) : c.ch j < 256 := by
  unfold C4.ch
  obtain ⟨h1, h2, h3, h4⟩ := h
  split <;> assumption
/-- Where a pixel stands among the seen ones. -/
def pl (c : C4) : Nat := plQ c.r c.g c.b c.a
theorem pl_lt (c : C4) : pl c < 64 := plQ_lt _ _ _ _
/-- A channel and a difference, modulo 256. -/
def adm (v : Nat) (d : Int) : Nat := (((v : Int) + d) % 256).toNat
theorem adm_lt (v : Nat) (d : Int) : adm v d < 256 := by unfold adm; omega
def mv (c : C4) (dr dg db : Int) : C4 := ⟨adm c.r dr, adm c.g dg, adm c.b db, c.a⟩

/-- What is known behind some steps: the place, the last pixel, the seen ones, the pixels, how many, and how many steps of the ledger. -/
structure QR where
  p : Nat
  last : C4
  seen : Nat → C4
  px : Nat → C4
  i : Nat
  N : Nat
/-- How many bytes a step has, how many readings, how often it tells its pixel. -/
def nb (b : Nat) : Nat := if b = 254 then 4 else if b = 255 then 5 else if 128 ≤ b ∧ b < 192 then 2 else 1
def rdn (b : Nat) : Nat := if nb b = 1 then 1 else 2
def tms (b : Nat) : Nat := if b = 254 ∨ b = 255 ∨ b < 192 then 1 else b - 191
theorem tms_1 (b : Nat) : 1 ≤ tms b := by unfold tms; split <;> omega
theorem nb_1 (b : Nat) : 1 ≤ nb b := by unfold nb; split; omega; split; omega; split <;> omega
theorem rdn_1 (b : Nat) : 1 ≤ rdn b := by unfold rdn; split <;> omega
def colQ (s : ByteArray) (p : Nat) (last : C4) (seen : Nat → C4) : C4 :=
  if bt s p = 254 then ⟨bt s (p + 1), bt s (p + 2), bt s (p + 3), last.a⟩
  else if bt s p = 255 then ⟨bt s (p + 1), bt s (p + 2), bt s (p + 3), bt s (p + 4)⟩
  else if bt s p < 64 then seen (bt s p)
  else if bt s p < 128 then mv last (((bt s p - 64) / 16 : Nat) - 2) (((bt s p - 64) / 4 % 4 : Nat) - 2) (((bt s p - 64) % 4 : Nat) - 2)
  else if bt s p < 192 then mv last ((((bt s p : Nat) : Int) - 160) + ((bt s (p + 1) / 16 : Nat) : Int) - 8) (((bt s p : Nat) : Int) - 160) ((((bt s p : Nat) : Int) - 160) + ((bt s (p + 1) % 16 : Nat) : Int) - 8)
  else last
def nxt (s : ByteArray) (R : QR) : QR where
  p := R.p + nb (bt s R.p)
  last := colQ s R.p R.last R.seen
  seen := fun k => if k = pl (colQ s R.p R.last R.seen) then colQ s R.p R.last R.seen else R.seen k
  px := fun k => if k < R.i then R.px k else colQ s R.p R.last R.seen
  i := R.i + tms (bt s R.p)
  N := R.N + rdn (bt s R.p) + tms (bt s R.p)
def R0 : QR := ⟨14, ⟨0, 0, 0, 255⟩, fun _ => ⟨0, 0, 0, 0⟩, fun _ => ⟨0, 0, 0, 0⟩, 0, 0⟩
def sq (s : ByteArray) : Nat → QR
  | 0 => R0
  | j + 1 => nxt s (sq s j)
theorem bt256 (s : ByteArray) (k : Nat) : bt s k < 256 := bt_lt s k
theorem mv_ok {c : C4} (h : c.ok) (x y z : Int) : (mv c x y z).ok := ⟨adm_lt _ _, adm_lt _ _, adm_lt _ _, h.2.2.2⟩
theorem col_ok (s : ByteArray) (p : Nat) {last : C4} {seen : Nat → C4} (h : last.ok) (hs : ∀ k, (seen k).ok) : (colQ s p last seen).ok := by
  unfold colQ
  split
  · exact ⟨bt256 _ _, bt256 _ _, bt256 _ _, h.2.2.2⟩
  · split
    · exact ⟨bt256 _ _, bt256 _ _, bt256 _ _, bt256 _ _⟩
    · split
      · exact hs _
      · split
        · exact mv_ok h _ _ _
        · split
          · exact mv_ok h _ _ _
          · exact h
theorem ok0 : (⟨0, 0, 0, 0⟩ : C4).ok := ⟨by decide, by decide, by decide, by decide⟩
theorem ok255 : (⟨0, 0, 0, 255⟩ : C4).ok := ⟨by decide, by decide, by decide, by decide⟩
/-- All of it are colours. -/
structure Okr (R : QR) : Prop where
  last : R.last.ok
  seen : ∀ k, (R.seen k).ok
  px : ∀ k, (R.px k).ok
theorem okr (s : ByteArray) : ∀ j, Okr (sq s j)
  | 0 => ⟨ok255, fun _ => ok0, fun _ => ok0⟩
  | j + 1 => by
    have h := okr s j
    have hc := col_ok s (sq s j).p h.last h.seen
    refine ⟨hc, fun k => ?_, fun k => ?_⟩
    · show (if k = pl _ then _ else (sq s j).seen k : C4).ok
      split
      · exact hc
      · exact h.seen k
    · show (if k < (sq s j).i then (sq s j).px k else _ : C4).ok
      split
      · exact h.px k
      · exact hc
/-- The pixels as a raster takes them. -/
def CF (R : QR) (k j : Nat) : Int := ((R.px k).ch j : Nat)
theorem cf_bd {R : QR} (h : Okr R) (k j : Nat) : 0 ≤ CF R k j ∧ CF R k j ≤ 255 := by
  have := C4.ch_lt (h.px k) j
  unfold CF
  omega
theorem rk_congr {C D : Nat → Nat → Int} (n : Nat) : ∀ i, (∀ k, k < i → ∀ j, C k j = D k j) → rk C n i = rk D n i
  | 0, _ => rfl
  | i + 1, h => by
    show Bu.putS _ _ _ = Bu.putS _ _ _
    rw [rk_congr n i (fun k hk j => h k (by omega) j)]
    congr 1
    unfold fB
    rw [h i (by omega) 0, h i (by omega) 1, h i (by omega) 2, h i (by omega) 3]
theorem cf_next (s : ByteArray) (R : QR) (k : Nat) (hk : k < R.i) (j : Nat) : CF R k j = CF (nxt s R) k j := by
  have e : (nxt s R).px k = R.px k := if_pos hk
  unfold CF
  rw [e]
/-- A step goes on. -/
structure Gq (s : ByteArray) (n : Nat) (R : QR) : Prop where
  i : R.i < n
  p : R.p < s.size
  nb : R.p + nb (bt s R.p) ≤ s.size
  t : R.i + tms (bt s R.p) ≤ n
def endB (j : Nat) : Nat := if j = 7 then 1 else 0
/-- What the bytes behind the pixels are. -/
def EndQ (s : ByteArray) (p0 N0 f p N : Nat) : Prop := ∃ k, (∀ j, j < k → p0 + j < s.size ∧ bt s (p0 + j) = endB j) ∧
  ((k = 8 ∧ f = 0 ∧ p = 0 ∧ N = N0 + 8) ∨ (k < 8 ∧ s.size ≤ p0 + k ∧ f = 1 ∧ p = s.size ∧ N = N0 + k + 1) ∨ (k < 8 ∧ p0 + k < s.size ∧ bt s (p0 + k) ≠ endB k ∧ f = 2 ∧ p = p0 + k ∧ N = N0 + k + 1))
theorem end_ex (s : ByteArray) (p0 N0 : Nat) : ∃ f p N, EndQ s p0 N0 f p N := by
  have : ∀ d k, 8 - k = d → k ≤ 8 → (∀ j, j < k → p0 + j < s.size ∧ bt s (p0 + j) = endB j) → ∃ f p N, EndQ s p0 N0 f p N := by
    intro d
    induction d with
    | zero => intro k hd hk h; exact ⟨0, 0, N0 + 8, k, h, .inl ⟨by omega, rfl, rfl, rfl⟩⟩
    | succ d ih =>
      intro k hd hk h
      by_cases hp : p0 + k < s.size
      · by_cases hb : bt s (p0 + k) = endB k
        · exact ih (k + 1) (by omega) (by omega) (fun j hj => by
            by_cases e : j = k
            · rw [e]; exact ⟨hp, hb⟩
            · exact h j (by omega))
        · exact ⟨2, p0 + k, N0 + k + 1, k, h, .inr (.inr ⟨by omega, hp, hb, rfl, rfl, rfl⟩)⟩
      · exact ⟨1, s.size, N0 + k + 1, k, h, .inr (.inl ⟨by omega, by omega, rfl, rfl, rfl⟩)⟩
  exact this _ 0 rfl (by omega) (fun j hj => absurd hj (by omega))
theorem end_N {s : ByteArray} {p0 N0 f p N : Nat} (h : EndQ s p0 N0 f p N) : N0 + 1 ≤ N := by
  obtain ⟨k, _, h | h | h⟩ := h <;> omega
/-- What becomes of a text: J steps go on, then it ends: the fault f at p, N steps of the ledger. -/
structure QE (s : ByteArray) (n J f p N : Nat) : Prop where
  go : ∀ j, j < J → Gq s n (sq s j)
  ed : ((sq s J).i = n ∧ EndQ s (sq s J).p (sq s J).N f p N) ∨
    ((sq s J).i < n ∧ s.size ≤ (sq s J).p ∧ f = 1 ∧ p = s.size ∧ N = (sq s J).N + 1) ∨
    ((sq s J).i < n ∧ (sq s J).p < s.size ∧ s.size < (sq s J).p + nb (bt s (sq s J).p) ∧ f = 1 ∧ p = s.size ∧ N = (sq s J).N + 2) ∨
    ((sq s J).i < n ∧ (sq s J).p < s.size ∧ (sq s J).p + nb (bt s (sq s J).p) ≤ s.size ∧ n < (sq s J).i + tms (bt s (sq s J).p) ∧ f = 2 ∧ p = (sq s J).p ∧ N = (sq s J).N + 1)
theorem qe_ex (s : ByteArray) (n : Nat) : ∃ J f p N, QE s n J f p N := by
  have : ∀ d j, n - (sq s j).i = d → (sq s j).i ≤ n → (∀ k, k < j → Gq s n (sq s k)) → ∃ J f p N, QE s n J f p N := by
    intro d
    induction d using Nat.strongRecOn with
    | ind d ih =>
      intro j hd hi hg
      by_cases h1 : (sq s j).i = n
      · obtain ⟨f, p, N, h⟩ := end_ex s (sq s j).p (sq s j).N
        exact ⟨j, f, p, N, hg, .inl ⟨h1, h⟩⟩
      · by_cases h2 : (sq s j).p < s.size
        · by_cases h3 : (sq s j).p + nb (bt s (sq s j).p) ≤ s.size
          · by_cases h4 : (sq s j).i + tms (bt s (sq s j).p) ≤ n
            · have hi2 : (sq s (j + 1)).i = (sq s j).i + tms (bt s (sq s j).p) := rfl
              have ht := tms_1 (bt s (sq s j).p)
              exact ih (n - (sq s (j + 1)).i) (by omega) (j + 1) rfl (by omega) (fun k hk => by
                by_cases e : k = j
                · rw [e]; exact ⟨by omega, h2, h3, h4⟩
                · exact hg k (by omega))
            · exact ⟨j, 2, (sq s j).p, (sq s j).N + 1, hg, .inr (.inr (.inr ⟨by omega, h2, h3, by omega, rfl, rfl, rfl⟩))⟩
          · exact ⟨j, 1, s.size, (sq s j).N + 2, hg, .inr (.inr (.inl ⟨by omega, h2, by omega, rfl, rfl, rfl⟩))⟩
        · exact ⟨j, 1, s.size, (sq s j).N + 1, hg, .inr (.inl ⟨by omega, by omega, rfl, rfl, rfl⟩)⟩
  exact this _ 0 rfl (Nat.zero_le _) (fun k hk => absurd hk (by omega))
section
variable {s : ByteArray} {n J f p N : Nat}
theorem QE.N1 (h : QE s n J f p N) : (sq s J).N + 1 ≤ N := by
  rcases h.ed with ⟨_, h⟩ | h | h | h
  · exact end_N h
  · omega
  · omega
  · omega
theorem nN (s : ByteArray) : ∀ d j, (sq s j).N ≤ (sq s (j + d)).N
  | 0, _ => Nat.le_refl _
  | d + 1, j => by
    have h1 := nN s d j
    have h2 : (sq s (j + (d + 1))).N = (sq s (j + d)).N + rdn (bt s (sq s (j + d)).p) + tms (bt s (sq s (j + d)).p) := rfl
    omega
theorem QE.Nj (h : QE s n J f p N) {j : Nat} (hj : j < J) : (sq s j).N + rdn (bt s (sq s j).p) + tms (bt s (sq s j).p) + 1 ≤ N := by
  have h1 := nN s (J - (j + 1)) (j + 1)
  rw [show j + 1 + (J - (j + 1)) = J by omega] at h1
  have h2 : (sq s (j + 1)).N = (sq s j).N + rdn (bt s (sq s j).p) + tms (bt s (sq s j).p) := rfl
  have h3 := h.N1
  omega
theorem QE.ij (h : QE s n J f p N) {j : Nat} (hj : j ≤ J) : (sq s j).i ≤ n := by
  cases j with
  | zero => exact Nat.zero_le _
  | succ j =>
    have := (h.go j (by omega)).t
    exact this
end

end Go.Proofs.YtmhghkgcfgacdaaGreat.Qo

/- Layer 26: the small calls of what reads. -/
namespace Go.Proofs.YtmhghkgcfgacdaaGreat.Qo
open Go.ChangeShapes Go.WideShapes Go.ChangeAt Go.RowKit
open Go.Proofs.YtmhghkgcfgacdaaGreat.Le Go.Proofs.YtmhghkgcfgacdaaGreat.Tk Go.Proofs.YtmhghkgcfgacdaaGreat.Sr Go.Proofs.YtmhghkgcfgacdaaGreat.Sh Go.Proofs.YtmhghkgcfgacdaaGreat.Qw
open Go.Proofs.YtmhghkgcfgacdaaGreat.Ra hiding bt
set_option linter.unusedVariables false

theorem qfault_calls (k a : Int) (W : World) : Calls Tryz.prog 26 #[.int .i64 k, .int .i64 a] W fun e w' => e = .returned (flF 5 k a) ∧ W.grownBy w' none := by
  have F0 := Fl.new W
  have q0 := F0.c0
  have q1 := F0.c1
  have q2 := F0.c2
  have qf0 := F0.free 0
  have qf1 := F0.free 1
  have qf2 := F0.free 2
  have HG := Lib.hid (World.grownBy_alloc W (.cells #[.int .i64 0, .int .i64 0, .int .i64 0] 29) none)
  clear F0
  unfold flF
  go_enter Tryz.func26, Tryz.ntmps26
  go_wp2_with fail
  refine bodyPost_ret (v := .agg #[.int .i64 k, .int .i64 5, .int .i64 a]) (by simp only [results, Tryz.results26]; go_simp) rfl ⟨rfl, ?_⟩
  exact World.grownBy_alloc _ _ _

def cV (c : C4) : Value := cQ c.r c.g c.b c.a
theorem u8w (d : Int) : IntKind.u8.wrap d = d % 256 := by rw [IntKind.wrap_u8]

set_option maxRecDepth 100000 in
theorem moved_calls (c : C4) (hc : c.ok) (dr dg db : Int) (W : World) : Calls Tryz.prog 74 #[cV c, .int .i64 dr, .int .i64 dg, .int .i64 db] W fun e w' => e = .returned (cV (mv c dr dg db)) ∧ W.grownBy w' none := by
  obtain ⟨r, g, b, a⟩ := c
  have h1 : ((adm r dr : Nat) : Int) = ((r : Int) + dr % 256) % 256 := by unfold adm; omega
  have h2 : ((adm g dg : Nat) : Int) = ((g : Int) + dg % 256) % 256 := by unfold adm; omega
  have h3 : ((adm b db : Nat) : Int) = ((b : Int) + db % 256) % 256 := by unfold adm; omega
  have H := Lib.hid (And.intro h1 (And.intro h2 h3))
  unfold cV mv cQ
  simp only
  clear h1 h2 h3
  go_enter Tryz.func74, Tryz.ntmps74
  go_wp2_with fail
  refine bodyPost_ret (v := .agg #[.int .u8 (((r : Int) + dr) % 256), .int .u8 (((g : Int) + dg) % 256), .int .u8 (((b : Int) + db) % 256), .int .u8 a]) (by simp only [results, Tryz.results74]; go_simp) rfl ⟨?_, gb_trans (World.grownBy_alloc _ _ _) (World.grownBy_alloc _ _ _)⟩
  rw [H.out.1, H.out.2.1, H.out.2.2, show ((r : Int) + dr % 256) % 256 = ((r : Int) + dr) % 256 by omega, show ((g : Int) + dg % 256) % 256 = ((g : Int) + dg) % 256 by omega, show ((b : Int) + db % 256) % 256 = ((b : Int) + db) % 256 by omega]

/-- The memory's cells. -/
structure MC (C : Array Value) (last : C4) (seen : Nat → C4) : Prop where
  last : ∀ j, j < 4 → C[j]? = some (.int .u8 (last.ch j : Nat))
  seen : ∀ k j, k < 64 → j < 4 → C[4 + 4 * k + j]? = some (.int .u8 ((seen k).ch j : Nat))
/-- The pixels of a file in memory: i are set, of n. -/
structure PB (L c r : Nat) (last : C4) (seen : Nat → C4) (i n : Nat) (C : Array Value) (w : World) : Prop where
  blk : w.heap[L]? = some (.cells C 124 (0, 0))
  size : C.size = 264
  mc : MC C last seen
  pc : C[260]? = some (.pointer (some ⟨c, 0, none⟩))
  pr : C[261]? = some (.pointer (some ⟨r, 0, none⟩))
  pi : C[262]? = some (.int .i64 (i : Nat))
  pn : C[263]? = some (.int .i64 ((n : Int) - (i : Int)))
section
variable {L c r i n : Nat} {last : C4} {seen : Nat → C4} {C : Array Value} {w w' : World}
theorem PB.lt (h : PB L c r last seen i n C w) : L < w.heap.size := blk_lt h.blk
theorem PB.turned {S : List Nat} (h : PB L c r last seen i n C w) (t : Tn w w' S) (hL : L ∉ S) : PB L c r last seen i n C w' := ⟨(t.block L h.lt hL).trans h.blk, h.size, h.mc, h.pc, h.pr, h.pi, h.pn⟩
theorem PB.cc (h : PB L c r last seen i n C w) : w.cell? ⟨L, 260, none⟩ = some (.pointer (some ⟨c, 0, none⟩)) := (blk_cell h.blk 260).trans h.pc
theorem PB.cr (h : PB L c r last seen i n C w) : w.cell? ⟨L, 261, none⟩ = some (.pointer (some ⟨r, 0, none⟩)) := (blk_cell h.blk 261).trans h.pr
theorem PB.ci (h : PB L c r last seen i n C w) : w.cell? ⟨L, 262, none⟩ = some (.int .i64 (i : Nat)) := (blk_cell h.blk 262).trans h.pi
theorem PB.cn (h : PB L c r last seen i n C w) : w.cell? ⟨L, 263, none⟩ = some (.int .i64 ((n : Int) - (i : Int))) := (blk_cell h.blk 263).trans h.pn
theorem PB.l0 (h : PB L c r last seen i n C w) : w.cell? ⟨L, 0, none⟩ = some (.int .u8 (last.r : Nat)) := (blk_cell h.blk 0).trans (h.mc.last 0 (by decide))
theorem PB.l1 (h : PB L c r last seen i n C w) : w.cell? ⟨L, 1, none⟩ = some (.int .u8 (last.g : Nat)) := (blk_cell h.blk 1).trans (h.mc.last 1 (by decide))
theorem PB.l2 (h : PB L c r last seen i n C w) : w.cell? ⟨L, 2, none⟩ = some (.int .u8 (last.b : Nat)) := (blk_cell h.blk 2).trans (h.mc.last 2 (by decide))
theorem PB.l3 (h : PB L c r last seen i n C w) : w.cell? ⟨L, 3, none⟩ = some (.int .u8 (last.a : Nat)) := (blk_cell h.blk 3).trans (h.mc.last 3 (by decide))
theorem PB.f (h : PB L c r last seen i n C w) (o : Nat) : w.frozen? ⟨L, o, none⟩ = false := blk_free h.blk o
end
theorem bt_ex (s : ByteArray) (p n j : Nat) (hj : j < n) : bt (s.extract p (p + n)) j = bt s (p + j) := by
  unfold bt
  rw [Lib.extract_data, List.getD_eq_getElem?_getD, List.getD_eq_getElem?_getD, List.getElem?_take_of_lt (by omega), List.getElem?_drop]

set_option maxRecDepth 100000 in
set_option maxHeartbeats 1000000 in
theorem whole_y (L c l r i N n p : Nat) (s : ByteArray) (last : C4) (seen : Nat → C4) (C : Array Value) (x : St) (W : World) (P : PB L c r last seen i N C W) (R : Rd c l s p x W) (hr : x.r = 0) (hst : x.st + 1 ≤ x.s) (hn : n = 3 ∨ n = 4) (hq : p + n ≤ s.size) (hLc : L ≠ c) (hLl : L ≠ l) :
    Calls Tryz.prog 73 #[.pointer (some ⟨L, 0, none⟩), .int .i64 (n : Nat)] W
      fun e w' => e = .returned (.tuple #[cV ⟨bt s p, bt s (p + 1), bt s (p + 2), if n = 4 then bt s (p + 3) else last.a⟩, .bool true]) ∧ Rd c l s (p + n) (stp x 1) w' ∧ Tn W w' [c, l] := by
  have g0 := World.grownBy_alloc W (.cells #[.int .u8 0, .int .u8 0, .int .u8 0, .int .u8 0] 67) none
  have P0 := P.turned (Tn.gb g0 (S := []) (by simp)) (by simp)
  have KT := take_y (R.grown g0) hr hst n hq
  have hz : (s.extract p (p + n)).size = n := by rw [ByteArray.size_extract]; omega
  have z0 := bt_ex s p n 0 (by omega)
  have z1 := bt_ex s p n 1 (by omega)
  have z2 := bt_ex s p n 2 (by omega)
  have z3 := fun h => bt_ex s p n 3 h
  obtain ⟨z, hzz⟩ : ∃ z, s.extract p (p + n) = z := ⟨_, rfl⟩
  rw [hzz] at KT hz z0 z1 z2 z3
  rw [Nat.add_zero] at z0
  have y0 := bt_at z 0 (by omega)
  have y1 := bt_at z 1 (by omega)
  have y2 := bt_at z 2 (by omega)
  have y3 := fun h => bt_at z 3 h
  rw [z0] at y0
  rw [z1] at y1
  rw [z2] at y2
  obtain ⟨a0, e0⟩ : ∃ a, bt s p = a := ⟨_, rfl⟩
  obtain ⟨a1, e1⟩ : ∃ a, bt s (p + 1) = a := ⟨_, rfl⟩
  obtain ⟨a2, e2⟩ : ∃ a, bt s (p + 2) = a := ⟨_, rfl⟩
  obtain ⟨a3, e3⟩ : ∃ a, bt s (p + 3) = a := ⟨_, rfl⟩
  rw [e0] at y0 ⊢
  rw [e1] at y1 ⊢
  rw [e2] at y2 ⊢
  rw [e3] at z3 ⊢
  have HX := blk_at (w := W) (o := .cells #[.int .u8 0, .int .u8 0, .int .u8 0, .int .u8 0] 67)
  have HP := Lib.hid P0
  have KT := Lib.hid KT
  have HT0 := Lib.hid (show Tn W (W.alloc (.cells #[.int .u8 0, .int .u8 0, .int .u8 0, .int .u8 0] 67)) [c, l] from Tn.gb g0 (by simp))
  have HXX := Lib.hid HX
  have c0 := P0.cc
  have hc := R.clt
  have hl := R.llt
  have hLt := P.lt
  obtain ⟨i0, hi0⟩ : ∃ i, W.heap.size = i := ⟨_, rfl⟩
  rw [hi0] at HXX hc hl hLt
  have HI0 := Lib.hid hi0
  clear g0 P0 P R hr hst hq hzz z0 z1 z2 e0 e1 e2 e3 HX
  unfold cV cQ
  simp only
  go_enter Tryz.func73, Tryz.ntmps73
  go_wp2_with fail
  refine KT.out.mono ?_
  rintro e w1 ⟨rfl, R1, T1⟩
  have HT1 := Lib.hid (HT0.out.trans T1)
  have HX1 := Lib.hid ((T1.block i0 (blk_lt HXX.out) (by simp; omega)).trans HXX.out)
  have P1 := HP.out.turned T1 (by simp; omega)
  have HP1 := Lib.hid P1
  have HR1 := Lib.hid R1
  clear R1 T1 KT HP HT0 HXX c0 hi0
  have c3 := P1.l3
  have c3a := (P1.turned (Tn.gb (World.grownBy_alloc w1 (.cells #[.int .u8 0, .int .u8 0, .int .u8 0, .int .u8 0] 67) none) (S := []) (by simp)) (by simp)).l3
  clear P1
  rcases hn with rfl | rfl
  · have k0 : 0 < z.size := by omega
    have k1 : 1 < z.size := by omega
    have k2 : 2 < z.size := by omega
    have hlt1 := blk_lt HX1.out
    have hne1 : ¬ i0 = w1.heap.size := by omega
    have hne2 : ¬ w1.heap.size = i0 := by omega
    clear z3 y3
    go_wp2_with fail
    go_region
    have fi0 := blk_free HX1.out 0
    have fi1 := blk_free HX1.out 1
    have fi2 := blk_free HX1.out 2
    have fi3 := blk_free HX1.out 3
    have ci0 := blk_cell HX1.out 0
    have ci1 := blk_cell HX1.out 1
    have ci2 := blk_cell HX1.out 2
    have ci3 := blk_cell HX1.out 3
    simp only [List.getElem?_toArray, List.getElem?_cons_succ, List.getElem?_cons_zero] at ci0 ci1 ci2 ci3
    go_wp2
    refine bodyPost_ret (v := .tuple #[.agg #[.int .u8 (a0 : Nat), .int .u8 (a1 : Nat), .int .u8 (a2 : Nat), .int .u8 (last.a : Nat)], .bool true]) (by simp only [results, Tryz.results73]; go_simp) rfl ?_
    have t6 : Tn w1 (((((w1.setCell ⟨i0, 0, none⟩ (.int .u8 (a0 : Nat))).setCell ⟨i0, 1, none⟩ (.int .u8 (a1 : Nat))).setCell ⟨i0, 2, none⟩ (.int .u8 (a2 : Nat))).setCell ⟨i0, 3, none⟩ (.int .u8 (last.a : Nat))).alloc (.cells #[.int .u8 (a0 : Nat), .int .u8 (a1 : Nat), .int .u8 (a2 : Nat), .int .u8 (last.a : Nat)] 67)).drew [i0] := (((((Tn.refl w1 [i0]).st (by simp)).st (by simp)).st (by simp)).st (by simp)).al.dr
    exact ⟨rfl, rd_own HR1.out t6 (by simp; omega) (by simp; omega), HT1.out.over t6 (by intro i hi; simp at hi; left; rw [HI0.out]; omega)⟩
  · have k0 : 0 < z.size := by omega
    have k1 : 1 < z.size := by omega
    have k2 : 2 < z.size := by omega
    have k3 : 3 < z.size := by omega
    have y3' := y3 k3
    rw [z3 (by decide)] at y3'
    have hlt1 := blk_lt HX1.out
    have hne1 : ¬ i0 = w1.heap.size := by omega
    have hne2 : ¬ w1.heap.size = i0 := by omega
    clear z3 y3
    go_wp2_with fail
    go_region
    have fi0 := blk_free HX1.out 0
    have fi1 := blk_free HX1.out 1
    have fi2 := blk_free HX1.out 2
    have fi3 := blk_free HX1.out 3
    have ci0 := blk_cell HX1.out 0
    have ci1 := blk_cell HX1.out 1
    have ci2 := blk_cell HX1.out 2
    have ci3 := blk_cell HX1.out 3
    simp only [List.getElem?_toArray, List.getElem?_cons_succ, List.getElem?_cons_zero] at ci0 ci1 ci2 ci3
    go_wp2
    refine bodyPost_ret (v := .tuple #[.agg #[.int .u8 (a0 : Nat), .int .u8 (a1 : Nat), .int .u8 (a2 : Nat), .int .u8 (a3 : Nat)], .bool true]) (by simp only [results, Tryz.results73]; go_simp) rfl ?_
    have t6 : Tn w1 (((((w1.setCell ⟨i0, 0, none⟩ (.int .u8 (a0 : Nat))).setCell ⟨i0, 1, none⟩ (.int .u8 (a1 : Nat))).setCell ⟨i0, 2, none⟩ (.int .u8 (a2 : Nat))).setCell ⟨i0, 3, none⟩ (.int .u8 (a3 : Nat))).alloc (.cells #[.int .u8 (a0 : Nat), .int .u8 (a1 : Nat), .int .u8 (a2 : Nat), .int .u8 (a3 : Nat)] 67)).drew [i0] := (((((Tn.refl w1 [i0]).st (by simp)).st (by simp)).st (by simp)).st (by simp)).al.dr
    exact ⟨rfl, rd_own HR1.out t6 (by simp; omega) (by simp; omega), HT1.out.over t6 (by intro i hi; simp at hi; left; rw [HI0.out]; omega)⟩

set_option maxRecDepth 100000 in
set_option maxHeartbeats 1000000 in
theorem whole_n (L c l r i N n p : Nat) (s : ByteArray) (last : C4) (seen : Nat → C4) (C : Array Value) (x : St) (W : World) (P : PB L c r last seen i N C W) (R : Rd c l s p x W) (hr : x.r = 0) (hn : s.size < p + n ∨ x.s < x.st + 1) (hLc : L ≠ c) (hLl : L ≠ l) :
    ∃ y k j, NoR c l s p n x y k j ∧ Calls Tryz.prog 73 #[.pointer (some ⟨L, 0, none⟩), .int .i64 (n : Nat)] W
      (fun e w' => e = .returned (.tuple #[cV ⟨0, 0, 0, 0⟩, .bool false]) ∧ Rd c l s p y w' ∧ Tn W w' [c, l]) ∧
      (∀ (f : Int) (u : World), Rd c l s p y u → Calls Tryz.prog 63 #[.pointer (some ⟨c, 0, none⟩), .int .i64 f] u fun e w' => e = .returned (.agg #[.int .i64 k, .int .i64 f, .int .i64 j]) ∧ Rd c l s p y w' ∧ u.grownBy w' none) := by
  have g0 := World.grownBy_alloc W (.cells #[.int .u8 0, .int .u8 0, .int .u8 0, .int .u8 0] 67) none
  have P0 := P.turned (Tn.gb g0 (S := []) (by simp)) (by simp)
  obtain ⟨y, k, j, hno, KT, KF⟩ := take_n (R.grown g0) hr n hn
  refine ⟨y, k, j, hno, ?_, KF⟩
  have HX := blk_at (w := W) (o := .cells #[.int .u8 0, .int .u8 0, .int .u8 0, .int .u8 0] 67)
  have KT := Lib.hid KT
  have HT0 := Lib.hid (show Tn W (W.alloc (.cells #[.int .u8 0, .int .u8 0, .int .u8 0, .int .u8 0] 67)) [c, l] from Tn.gb g0 (by simp))
  have HXX := Lib.hid HX
  have c0 := P0.cc
  have hc := R.clt
  have hl := R.llt
  obtain ⟨i0, hi0⟩ : ∃ i, W.heap.size = i := ⟨_, rfl⟩
  rw [hi0] at HXX hc hl
  have HI0 := Lib.hid hi0
  clear g0 P0 P R hr hno KF HX hn
  unfold cV cQ
  simp only
  go_enter Tryz.func73, Tryz.ntmps73
  go_wp2_with fail
  refine KT.out.mono ?_
  rintro e w1 ⟨rfl, R1, T1⟩
  have HT1 := Lib.hid (HT0.out.trans T1)
  have HX1 := Lib.hid ((T1.block i0 (blk_lt HXX.out) (by simp; omega)).trans HXX.out)
  have HR1 := Lib.hid R1
  clear R1 T1 KT HT0 HXX c0 hi0
  have fi0 := blk_free HX1.out 0
  have fi1 := blk_free HX1.out 1
  have fi2 := blk_free HX1.out 2
  have fi3 := blk_free HX1.out 3
  have ci0 := blk_cell HX1.out 0
  have ci1 := blk_cell HX1.out 1
  have ci2 := blk_cell HX1.out 2
  have ci3 := blk_cell HX1.out 3
  simp only [List.getElem?_toArray, List.getElem?_cons_succ, List.getElem?_cons_zero] at ci0 ci1 ci2 ci3
  have hlt1 := blk_lt HX1.out
  go_wp2
  refine bodyPost_ret (v := .tuple #[.agg #[.int .u8 0, .int .u8 0, .int .u8 0, .int .u8 0], .bool false]) (by simp only [results, Tryz.results73]; go_simp) rfl ?_
  have t6 : Tn w1 ((((w1.setCell ⟨i0, 0, none⟩ (.int .u8 0)).setCell ⟨i0, 1, none⟩ (.int .u8 0)).setCell ⟨i0, 2, none⟩ (.int .u8 0)).setCell ⟨i0, 3, none⟩ (.int .u8 0)) [i0] := ((((Tn.refl w1 [i0]).st (by simp)).st (by simp)).st (by simp)).st (by simp)
  exact ⟨rfl, rd_own HR1.out t6 (by simp; omega) (by simp; omega), HT1.out.over t6 (by intro i hi; simp at hi; left; rw [HI0.out]; omega)⟩

end Go.Proofs.YtmhghkgcfgacdaaGreat.Qo

/- Layer 26: a far step's second byte; a pixel is put. -/
namespace Go.Proofs.YtmhghkgcfgacdaaGreat.Qo
open Go.ChangeShapes Go.WideShapes Go.ChangeAt Go.RowKit
open Go.Proofs.YtmhghkgcfgacdaaGreat.Le Go.Proofs.YtmhghkgcfgacdaaGreat.Tk Go.Proofs.YtmhghkgcfgacdaaGreat.Sr Go.Proofs.YtmhghkgcfgacdaaGreat.Sh Go.Proofs.YtmhghkgcfgacdaaGreat.Qw
open Go.Proofs.YtmhghkgcfgacdaaGreat.Ra hiding bt
set_option linter.unusedVariables false

theorem and_low : ∀ (n : Fin 9) (v : Fin 256), bits .and .i64 (v.1 : Int) ((2 : Int) ^ n.1 - 1) = ((v.1 % 2 ^ n.1 : Nat) : Int) := by decide +kernel
theorem and15 (v : Nat) (h : v < 256) : bits .and .i64 (v : Int) 15 = ((v % 16 : Nat) : Int) := and_low ⟨4, by decide⟩ ⟨v, h⟩
theorem and63 (v : Nat) (h : v < 256) : bits .and .i64 (v : Int) 63 = ((v % 64 : Nat) : Int) := and_low ⟨6, by decide⟩ ⟨v, h⟩
theorem and3 (v : Nat) (h : v < 256) : bits .and .i64 (v : Int) 3 = ((v % 4 : Nat) : Int) := and_low ⟨2, by decide⟩ ⟨v, h⟩
theorem u8_n {c l : Nat} {s : ByteArray} {p : Nat} {x : St} {w : World} (h : Rd c l s p x w) (hr : x.r = 0) (hn : s.size < p + 1 ∨ x.s < x.st + 1) :
    ∃ y k j, NoR c l s p 1 x y k j ∧ Calls Tryz.prog 72 #[.pointer (some ⟨c, 0, none⟩)] w (fun e w' => e = .returned (.tuple #[.int .i64 0, .bool false]) ∧ Rd c l s p y w' ∧ Tn w w' [c, l]) ∧
      (∀ (f : Int) (u : World), Rd c l s p y u → Calls Tryz.prog 63 #[.pointer (some ⟨c, 0, none⟩), .int .i64 f] u fun e w' => e = .returned (.agg #[.int .i64 k, .int .i64 f, .int .i64 j]) ∧ Rd c l s p y w' ∧ u.grownBy w' none) := by
  by_cases hst : x.st + 1 ≤ x.s
  · have hq : s.size < p + 1 := by omega
    exact ⟨stp x 1, 1, s.size, .inl ⟨hq, hst, rfl, rfl, rfl⟩, u8_over c l s p x w h hr hst (by omega), fun f u R => fault_end c l s p (stp x 1) f u R hr⟩
  · exact ⟨spent x, 4, p, .inr ⟨by omega, rfl, rfl, rfl⟩, u8_spent c l s p x w h hr (by omega), fun f u R => fault_spent c l s p x f u R⟩

set_option maxRecDepth 100000 in
set_option maxHeartbeats 1000000 in
theorem far_y (L c l r i N p : Nat) (d : Int) (s : ByteArray) (last : C4) (seen : Nat → C4) (C : Array Value) (x : St) (W : World) (ok : last.ok) (hd : -100 ≤ d ∧ d ≤ 100) (P : PB L c r last seen i N C W) (R : Rd c l s p x W) (hr : x.r = 0) (hst : x.st + 1 ≤ x.s) (hq : p < s.size) (hLc : L ≠ c) (hLl : L ≠ l) :
    Calls Tryz.prog 75 #[.pointer (some ⟨L, 0, none⟩), .int .i64 d] W
      fun e w' => e = .returned (.tuple #[cV (mv last (d + ((bt s p / 16 : Nat) : Int) - 8) d (d + ((bt s p % 16 : Nat) : Int) - 8)), .bool true]) ∧ Rd c l s (p + 1) (stp x 1) w' ∧ Tn W w' [c, l] := by
  have g0 := World.grownBy_alloc W (.cells #[.int .u8 0, .int .u8 0, .int .u8 0, .int .u8 0] 67) none
  have P0 := P.turned (Tn.gb g0 (S := []) (by simp)) (by simp)
  have KT := u8_byte c l s p x _ (R.grown g0) hr hst hq
  have hb := bt_lt s p
  obtain ⟨b, hbb⟩ : ∃ b, bt s p = b := ⟨_, rfl⟩
  rw [hbb] at KT hb ⊢
  have hA := and15 b hb
  obtain ⟨q, hq16⟩ : ∃ q, b / 16 = q := ⟨_, rfl⟩
  obtain ⟨t, ht16⟩ : ∃ t, b % 16 = t := ⟨_, rfl⟩
  rw [hq16, ht16]
  rw [ht16] at hA
  have hqb : q ≤ 15 := by omega
  have htb : t ≤ 15 := by omega
  have KM := Lib.hid (fun u => moved_calls last ok (d + (q : Int) - 8) d (d + (t : Int) - 8) u)
  obtain ⟨V, hV⟩ : ∃ V, mv last (d + (q : Int) - 8) d (d + (t : Int) - 8) = V := ⟨_, rfl⟩
  rw [hV] at KM ⊢
  have HX := blk_at (w := W) (o := .cells #[.int .u8 0, .int .u8 0, .int .u8 0, .int .u8 0] 67)
  have HP := Lib.hid P0
  have KT := Lib.hid KT
  have HT0 := Lib.hid (show Tn W (W.alloc (.cells #[.int .u8 0, .int .u8 0, .int .u8 0, .int .u8 0] 67)) [c, l] from Tn.gb g0 (by simp))
  have HXX := Lib.hid HX
  have c0 := P0.cc
  have hc := R.clt
  have hl := R.llt
  have hLt := P.lt
  have w1 : IntKind.i64.wrap (d + (q : Int)) = d + (q : Int) := IntWalk.i64_in _ (by omega)
  have w2 : IntKind.i64.wrap (d + (q : Int) - 8) = d + (q : Int) - 8 := IntWalk.i64_in _ (by omega)
  have w3 : IntKind.i64.wrap (d + (t : Int)) = d + (t : Int) := IntWalk.i64_in _ (by omega)
  have w4 : IntKind.i64.wrap (d + (t : Int) - 8) = d + (t : Int) - 8 := IntWalk.i64_in _ (by omega)
  have bq : (b : Int) / 16 = (q : Int) := by omega
  have wq : IntKind.i64.wrap (q : Int) = (q : Int) := IntWalk.i64_in _ (by omega)
  obtain ⟨i0, hi0⟩ : ∃ i, W.heap.size = i := ⟨_, rfl⟩
  rw [hi0] at HXX hc hl hLt
  have HI0 := Lib.hid hi0
  clear g0 P0 P R hr hst hq HX hbb hq16 ht16 hV
  unfold cV cQ at KM
  unfold cV cQ
  go_enter Tryz.func75, Tryz.ntmps75
  go_wp2_with fail
  refine KT.out.mono ?_
  rintro e w1 ⟨rfl, R1, T1⟩
  have HT1 := Lib.hid (HT0.out.trans T1)
  have HX1 := Lib.hid ((T1.block i0 (blk_lt HXX.out) (by simp; omega)).trans HXX.out)
  have P1 := HP.out.turned T1 (by simp; omega)
  have HR1 := Lib.hid R1
  clear R1 T1 KT HP HT0 HXX c0 hi0
  have l0 := P1.l0
  have l1 := P1.l1
  have l2 := P1.l2
  have l3 := P1.l3
  clear P1
  have hlt1 := blk_lt HX1.out
  go_wp2_with fail
  refine (KM.out _).mono ?_
  rintro e w2 ⟨rfl, g2⟩
  have HX2 := Lib.hid ((g2.block i0 (by omega) (by simp)).trans HX1.out)
  have HT2 := Lib.hid (HT1.out.trans (Tn.gb g2 (by simp)))
  have HR2 := Lib.hid (HR1.out.grown g2)
  clear g2 KM HR1 HX1 HT1
  have fi0 := blk_free HX2.out 0
  have fi1 := blk_free HX2.out 1
  have fi2 := blk_free HX2.out 2
  have fi3 := blk_free HX2.out 3
  have ci0 := blk_cell HX2.out 0
  have ci1 := blk_cell HX2.out 1
  have ci2 := blk_cell HX2.out 2
  have ci3 := blk_cell HX2.out 3
  simp only [List.getElem?_toArray, List.getElem?_cons_succ, List.getElem?_cons_zero] at ci0 ci1 ci2 ci3
  have hlt2 := blk_lt HX2.out
  go_wp2
  refine bodyPost_ret (v := .tuple #[.agg #[.int .u8 (V.r : Nat), .int .u8 (V.g : Nat), .int .u8 (V.b : Nat), .int .u8 (V.a : Nat)], .bool true]) (by simp only [results, Tryz.results75]; go_simp) rfl ?_
  have t6 : Tn w2 ((((w2.setCell ⟨i0, 0, none⟩ (.int .u8 (V.r : Nat))).setCell ⟨i0, 1, none⟩ (.int .u8 (V.g : Nat))).setCell ⟨i0, 2, none⟩ (.int .u8 (V.b : Nat))).setCell ⟨i0, 3, none⟩ (.int .u8 (V.a : Nat))) [i0] := ((((Tn.refl w2 [i0]).st (by simp)).st (by simp)).st (by simp)).st (by simp)
  exact ⟨rfl, rd_own HR2.out t6 (by simp; omega) (by simp; omega), HT2.out.over t6 (by intro i hi; simp at hi; left; rw [HI0.out]; omega)⟩

set_option maxRecDepth 100000 in
set_option maxHeartbeats 1000000 in
theorem far_n (L c l r i N p : Nat) (d : Int) (s : ByteArray) (last : C4) (seen : Nat → C4) (C : Array Value) (x : St) (W : World) (P : PB L c r last seen i N C W) (R : Rd c l s p x W) (hr : x.r = 0) (hn : s.size < p + 1 ∨ x.s < x.st + 1) (hLc : L ≠ c) (hLl : L ≠ l) :
    ∃ y k j, NoR c l s p 1 x y k j ∧ Calls Tryz.prog 75 #[.pointer (some ⟨L, 0, none⟩), .int .i64 d] W
      (fun e w' => e = .returned (.tuple #[cV ⟨0, 0, 0, 0⟩, .bool false]) ∧ Rd c l s p y w' ∧ Tn W w' [c, l]) ∧
      (∀ (f : Int) (u : World), Rd c l s p y u → Calls Tryz.prog 63 #[.pointer (some ⟨c, 0, none⟩), .int .i64 f] u fun e w' => e = .returned (.agg #[.int .i64 k, .int .i64 f, .int .i64 j]) ∧ Rd c l s p y w' ∧ u.grownBy w' none) := by
  have g0 := World.grownBy_alloc W (.cells #[.int .u8 0, .int .u8 0, .int .u8 0, .int .u8 0] 67) none
  have P0 := P.turned (Tn.gb g0 (S := []) (by simp)) (by simp)
  obtain ⟨y, k, j, hno, KT, KF⟩ := u8_n (R.grown g0) hr hn
  refine ⟨y, k, j, hno, ?_, KF⟩
  have HX := blk_at (w := W) (o := .cells #[.int .u8 0, .int .u8 0, .int .u8 0, .int .u8 0] 67)
  have KT := Lib.hid KT
  have HT0 := Lib.hid (show Tn W (W.alloc (.cells #[.int .u8 0, .int .u8 0, .int .u8 0, .int .u8 0] 67)) [c, l] from Tn.gb g0 (by simp))
  have HXX := Lib.hid HX
  have c0 := P0.cc
  have hc := R.clt
  have hl := R.llt
  obtain ⟨i0, hi0⟩ : ∃ i, W.heap.size = i := ⟨_, rfl⟩
  rw [hi0] at HXX hc hl
  have HI0 := Lib.hid hi0
  clear g0 P0 P R hr hno KF HX hn
  unfold cV cQ
  simp only
  go_enter Tryz.func75, Tryz.ntmps75
  go_wp2_with fail
  refine KT.out.mono ?_
  rintro e w1 ⟨rfl, R1, T1⟩
  have HT1 := Lib.hid (HT0.out.trans T1)
  have HX1 := Lib.hid ((T1.block i0 (blk_lt HXX.out) (by simp; omega)).trans HXX.out)
  have HR1 := Lib.hid R1
  clear R1 T1 KT HT0 HXX c0 hi0
  have fi0 := blk_free HX1.out 0
  have fi1 := blk_free HX1.out 1
  have fi2 := blk_free HX1.out 2
  have fi3 := blk_free HX1.out 3
  have ci0 := blk_cell HX1.out 0
  have ci1 := blk_cell HX1.out 1
  have ci2 := blk_cell HX1.out 2
  have ci3 := blk_cell HX1.out 3
  simp only [List.getElem?_toArray, List.getElem?_cons_succ, List.getElem?_cons_zero] at ci0 ci1 ci2 ci3
  have hlt1 := blk_lt HX1.out
  go_wp2
  refine bodyPost_ret (v := .tuple #[.agg #[.int .u8 0, .int .u8 0, .int .u8 0, .int .u8 0], .bool false]) (by simp only [results, Tryz.results75]; go_simp) rfl ?_
  have t6 : Tn w1 ((((w1.setCell ⟨i0, 0, none⟩ (.int .u8 0)).setCell ⟨i0, 1, none⟩ (.int .u8 0)).setCell ⟨i0, 2, none⟩ (.int .u8 0)).setCell ⟨i0, 3, none⟩ (.int .u8 0)) [i0] := ((((Tn.refl w1 [i0]).st (by simp)).st (by simp)).st (by simp)).st (by simp)
  exact ⟨rfl, rd_own HR1.out t6 (by simp; omega) (by simp; omega), HT1.out.over t6 (by intro i hi; simp at hi; left; rw [HI0.out]; omega)⟩

end Go.Proofs.YtmhghkgcfgacdaaGreat.Qo

/- Layer 26: a pixel is put. -/
namespace Go.Proofs.YtmhghkgcfgacdaaGreat.Qo
open Go.ChangeShapes Go.WideShapes Go.ChangeAt Go.RowKit
open Go.Proofs.YtmhghkgcfgacdaaGreat.Le Go.Proofs.YtmhghkgcfgacdaaGreat.Tk Go.Proofs.YtmhghkgcfgacdaaGreat.Sr Go.Proofs.YtmhghkgcfgacdaaGreat.Sh Go.Proofs.YtmhghkgcfgacdaaGreat.Qw
open Go.Proofs.YtmhghkgcfgacdaaGreat.Ra hiding bt
set_option linter.unusedVariables false

theorem set_oth {C : Array Value} {k o : Nat} {v : Value} (h : k ≠ o) : (C.setIfInBounds k v)[o]? = C[o]? := by
  rw [Array.getElem?_setIfInBounds, if_neg h]
theorem set_own {C : Array Value} {k : Nat} {v : Value} (h : k < C.size) : (C.setIfInBounds k v)[k]? = some v := by
  rw [Array.getElem?_setIfInBounds, if_pos rfl, if_pos h]
theorem MC.far {C : Array Value} {last : C4} {seen : Nat → C4} (h : MC C last seen) (k : Nat) (v : Value) (hk : 260 ≤ k) : MC (C.setIfInBounds k v) last seen :=
  ⟨fun j hj => by rw [set_oth (by omega)]; exact h.last j hj, fun i j hi hj => by rw [set_oth (by omega)]; exact h.seen i j hi hj⟩
theorem PB.next {L c r i n : Nat} {last : C4} {seen : Nat → C4} {C : Array Value} {w : World} (h : PB L c r last seen i n C w) :
    PB L c r last seen (i + 1) n ((C.setIfInBounds 262 (.int .i64 ((i : Int) + 1))).setIfInBounds 263 (.int .i64 ((n : Int) - (i : Int) - 1))) ((w.setCell ⟨L, 262, none⟩ (.int .i64 ((i : Int) + 1))).setCell ⟨L, 263, none⟩ (.int .i64 ((n : Int) - (i : Int) - 1))) := by
  have hs := h.size
  refine ⟨blk_set (blk_set h.blk 262 _) 263 _, by simp [hs], (h.mc.far 262 _ (by decide)).far 263 _ (by decide), ?_, ?_, ?_, ?_⟩
  · rw [set_oth (by decide), set_oth (by decide)]; exact h.pc
  · rw [set_oth (by decide), set_oth (by decide)]; exact h.pr
  · rw [set_oth (by decide), set_own (by omega)]
    have : ((i + 1 : Nat) : Int) = (i : Int) + 1 := by omega
    rw [this]
  · rw [set_own (by simp [hs])]
    have : (n : Int) - ((i + 1 : Nat) : Int) = (n : Int) - (i : Int) - 1 := by omega
    rw [this]

set_option maxRecDepth 100000 in
set_option maxHeartbeats 2000000 in
theorem put_y (L c l r cb g i n p gw gh : Nat) (s : ByteArray) (last cc : C4) (seen : Nat → C4) (C : Array Value) (CC : Nat → Nat → Int) (x : St) (W : World) (P : PB L c r last seen i n C W) (O : Ro r l cb g gw gh (rk CC n i) W) (R : Rd c l s p x W) (hr : x.r = 0) (hst : x.st + 1 ≤ x.s)
    (hi : i < n) (hn : gw * gh = n) (hw : gw ≤ 16384) (hh : gh ≤ 16384) (hbd : ∀ j, 0 ≤ CC i j ∧ CC i j ≤ 255) (hcc : colV CC i = cV cc) (hLl : L ≠ l) (hLg : L ≠ g) (hLc : L ≠ c) (hLr : L ≠ r) (hLb : L ≠ cb) (hrl : r ≠ l) (hcl : c ≠ l) (hcg : c ≠ g) (hlg : l ≠ g) :
    Calls Tryz.prog 76 #[.pointer (some ⟨L, 0, none⟩), cV cc] W
      fun e w' => e = .returned (.bool true) ∧ (∃ C', PB L c r last seen (i + 1) n C' w') ∧ Ro r l cb g gw gh (rk CC n (i + 1)) w' ∧ Rd c l s p (stp x 1) w' ∧ Tn W w' [l, g, L] := by
  have hgw : 1 ≤ gw := by
    rcases Nat.eq_zero_or_pos gw with h | h
    · rw [h, Nat.zero_mul] at hn; omega
    · exact h
  obtain ⟨xx, hxx⟩ : ∃ x, i % gw = x := ⟨_, rfl⟩
  obtain ⟨yy, hyy⟩ : ∃ y, i / gw = y := ⟨_, rfl⟩
  have hx : xx < gw := by rw [← hxx]; exact Nat.mod_lt _ (by omega)
  have hy : yy < gh := by rw [← hyy, Nat.div_lt_iff_lt_mul (by omega), Nat.mul_comm, hn]; exact hi
  have hk : yy * gw + xx = i := by rw [← hxx, ← hyy, Nat.mul_comm]; exact Nat.div_add_mod i gw
  have i16 : n ≤ 268435456 := by rw [← hn]; exact Nat.le_trans (Nat.mul_le_mul hw hh) (by decide)
  have m2 : (i : Int) % (gw : Int) = (xx : Int) := by rw [← hxx]; rfl
  have d2 : (i : Int) / (gw : Int) = (yy : Int) := by rw [← hyy]; rfl
  have xb : xx ≤ 16384 := by omega
  have yb : yy ≤ 16384 := by omega
  obtain ⟨I, hI⟩ : ∃ I : Int, (i : Int) = I := ⟨_, rfl⟩
  obtain ⟨G, hG⟩ : ∃ G : Int, (gw : Int) = G := ⟨_, rfl⟩
  obtain ⟨X, hX0⟩ : ∃ G : Int, (xx : Int) = G := ⟨_, rfl⟩
  obtain ⟨Y, hY0⟩ : ∃ G : Int, (yy : Int) = G := ⟨_, rfl⟩
  rw [hI, hG, hX0] at m2
  rw [hI, hG, hY0] at d2
  have I0 : 0 ≤ I := by omega
  have G0 : 0 < G := by omega
  have m1 : I.tmod G = X := by rw [Int.tmod_eq_emod_of_nonneg I0, m2]
  have d1 : I.tdiv G = Y := by rw [Int.tdiv_eq_ediv_of_nonneg I0, d2]
  have n1 : (G == 0) = false := by rw [beq_eq_false_iff_ne]; omega
  have n2 : ¬ G = 0 := by omega
  have ww1 : IntKind.i64.wrap X = X := IntWalk.i64_in _ (by omega)
  have ww2 : IntKind.i64.wrap Y = Y := IntWalk.i64_in _ (by omega)
  have ww3 : wrap64 X = X := IntWalk.wrap64_in _ (by omega)
  have ww4 : wrap64 Y = Y := IntWalk.wrap64_in _ (by omega)
  obtain ⟨D, hD⟩ : ∃ D : Int, (n : Int) - (i : Int) = D := ⟨_, rfl⟩
  have ww5 : IntKind.i64.wrap (I + 1) = I + 1 := IntWalk.i64_in _ (by omega)
  have ww6 : IntKind.i64.wrap (D - 1) = D - 1 := IntWalk.i64_in _ (by omega)
  have HDD := Lib.hid hD
  have KW := fun u (h : Ro r l cb g gw gh (rk CC n i) u) => width_calls r l cb g gw gh _ u h
  rw [hG] at KW
  have KW := Lib.hid KW
  have KS := fun u (h : Ro r l cb g gw gh (rk CC n i) u) (hl : Led l x.ls u) => set_at r l cb g gw gh n i xx yy CC x u hbd hx hy hw hh hk h hl R.ok hr hst
  rw [hcc, hX0, hY0] at KS
  have hok := stp_ok R.ok hr hst
  have HOK := Lib.hid hok
  have KS := Lib.hid KS
  have HP := Lib.hid P
  have HO := Lib.hid O
  have HR := Lib.hid R
  have HII := Lib.hid hI
  clear hxx hyy hx hy hk hi hn hw hh hbd hcc hr hst hok P O R hI hG hX0 hY0 xb yb i16 hgw hD
  have W0c := World.grownBy_alloc W (.cells #[.int .u8 (cc.r : Nat), .int .u8 (cc.g : Nat), .int .u8 (cc.b : Nat), .int .u8 (cc.a : Nat)] 67) none
  have HG0 := Lib.hid W0c
  have hX := blk_at (w := W) (o := .cells #[.int .u8 (cc.r : Nat), .int .u8 (cc.g : Nat), .int .u8 (cc.b : Nat), .int .u8 (cc.a : Nat)] 67)
  have HX := Lib.hid hX
  have P0 := HP.out.turned (Tn.gb W0c (S := []) (by simp)) (by simp)
  have HP0 := Lib.hid P0
  have HO0 := Lib.hid (HO.out.grown W0c (by simp) (by simp) (by simp))
  have HR0 := Lib.hid (HR.out.grown W0c)
  clear hX W0c P0
  unfold cV cQ at KS
  unfold cV cQ
  go_enter Tryz.func76, Tryz.ntmps76
  go_upto_region 1 with fail
  have hlw := HP.out.lt
  have hlw2 := HR.out.llt
  have hlw3 := HO.out.buf.glt
  obtain ⟨i0, hi0⟩ : ∃ i, W.heap.size = i := ⟨_, rfl⟩
  rw [hi0] at HX hlw hlw2 hlw3 ⊢
  have HI5 := Lib.hid (show i0 ∉ [l, g] by simp; omega)
  have HI0 := Lib.hid hi0
  generalize W.alloc (.cells #[.int .u8 (cc.r : Nat), .int .u8 (cc.g : Nat), .int .u8 (cc.b : Nat), .int .u8 (cc.a : Nat)] 67) = w0 at HG0 HX HP0 HO0 HR0 ⊢
  clear hi0
  have cr := HP0.out.cr
  have ci := HP0.out.ci
  rw [HII.out] at ci
  have x0 := blk_cell HX.out 0
  have x1 := blk_cell HX.out 1
  have x2 := blk_cell HX.out 2
  have x3 := blk_cell HX.out 3
  simp only [List.getElem?_toArray, List.getElem?_cons_succ, List.getElem?_cons_zero] at x0 x1 x2 x3
  go_region_held3 (fun w' => w'.cell? ⟨L, 261, none⟩ = some (.pointer (some ⟨r, 0, none⟩)) ∧ w'.cell? ⟨L, 262, none⟩ = some (.int .i64 I) ∧ w'.cell? ⟨i0, 0, none⟩ = some (.int .u8 (cc.r : Nat)) ∧ w'.cell? ⟨i0, 1, none⟩ = some (.int .u8 (cc.g : Nat)) ∧ w'.cell? ⟨i0, 2, none⟩ = some (.int .u8 (cc.b : Nat)) ∧ w'.cell? ⟨i0, 3, none⟩ = some (.int .u8 (cc.a : Nat))) (go_keep)
    (first
      | (go_at_call 47; (with_reducible refine (KW.out _ (HO0.out.grown (gb_drew w0 none) (by simp) (by simp) (by simp))).mono ?_); rintro e u ⟨rfl, rfl⟩)
      | (go_at_call 96; (with_reducible refine (KS.out _ (HO0.out.grown (gb_drew w0 none) (by simp) (by simp) (by simp)) (HR0.out.grown (gb_drew w0 none)).led).mono ?_); rintro e w5 ⟨rfl, ⟨O5, L5⟩, T5⟩; have T6 : Tn w0 w5 [l, g] := (Tn.drew w0 _).trans T5; have P5 := HP0.out.turned T6 (by simp; omega); have cr := P5.cr; have ci := P5.ci; rw [HII.out] at ci; have X5 := (T6.block i0 (blk_lt HX.out) HI5.out).trans HX.out; have x0 := blk_cell X5 0; have x1 := blk_cell X5 1; have x2 := blk_cell X5 2; have x3 := blk_cell X5 3; simp only [List.getElem?_toArray, List.getElem?_cons_succ, List.getElem?_cons_zero] at x0 x1 x2 x3))
  all_goals
    have cn := P5.cn
    rw [HDD.out] at cn
    have f2 := P5.f 262
    have f3 := P5.f 263
    have hlt5 := P5.lt
    have N5 := P5.next
    rw [HDD.out, HII.out] at N5
    have HN5 := Lib.hid N5
    have HB5 := Lib.hid (And.intro O5 (And.intro L5 T6))
    clear N5 P5 O5 L5 T5 T6 X5 x0 x1 x2 x3 cr m1 m2 d1 d2 n1 n2 ww1 ww2 ww3 ww4 KS KW
    go_wp2
    go_ret
    have t6 : Tn w5 ((w5.setCell ⟨L, 262, none⟩ (.int .i64 (I + 1))).setCell ⟨L, 263, none⟩ (.int .i64 (D - 1))) [L] := ((Tn.refl w5 [L]).st (by simp)).st (by simp)
    have T7 : Tn w0 ((w5.setCell ⟨L, 262, none⟩ (.int .i64 (I + 1))).setCell ⟨L, 263, none⟩ (.int .i64 (D - 1))) [l, g, L] := (HB5.out.2.2.mono (by intro k hk; simp at hk ⊢; omega)).trans (t6.mono (by intro k hk; simp at hk ⊢; omega))
    have hnc : c ∉ [l, g, L] := by simp; omega
    exact ⟨rfl, ⟨_, HN5.out⟩, ro_t HB5.out.1 t6 (by simp; omega) (by simp; omega) (by simp; omega), ⟨HR0.out.so.turned T7 hnc, HB5.out.2.1.turned t6 (by simp; omega), HOK.out⟩, (Tn.gb HG0.out (S := [l, g, L]) (by simp)).trans T7⟩

end Go.Proofs.YtmhghkgcfgacdaaGreat.Qo

/- Layer 26: a pixel is not put. -/
namespace Go.Proofs.YtmhghkgcfgacdaaGreat.Qo
open Go.ChangeShapes Go.WideShapes Go.ChangeAt Go.RowKit
open Go.Proofs.YtmhghkgcfgacdaaGreat.Le Go.Proofs.YtmhghkgcfgacdaaGreat.Tk Go.Proofs.YtmhghkgcfgacdaaGreat.Sr Go.Proofs.YtmhghkgcfgacdaaGreat.Sh Go.Proofs.YtmhghkgcfgacdaaGreat.Qw
open Go.Proofs.YtmhghkgcfgacdaaGreat.Ra hiding bt
set_option linter.unusedVariables false

set_option maxRecDepth 100000 in
set_option maxHeartbeats 2000000 in
theorem put_n (L c l r cb g i n p gw gh : Nat) (s : ByteArray) (last cc : C4) (seen : Nat → C4) (C : Array Value) (CC : Nat → Nat → Int) (x : St) (W : World) (P : PB L c r last seen i n C W) (O : Ro r l cb g gw gh (rk CC n i) W) (R : Rd c l s p x W) (hr : x.r = 0) (hst : x.s < x.st + 1)
    (hi : i < n) (hn : gw * gh = n) (hw : gw ≤ 16384) (hh : gh ≤ 16384) (hbd : ∀ j, 0 ≤ CC i j ∧ CC i j ≤ 255) (hcc : colV CC i = cV cc) (hLl : L ≠ l) (hLg : L ≠ g) (hLc : L ≠ c) (hLr : L ≠ r) (hLb : L ≠ cb) (hrl : r ≠ l) (hcl : c ≠ l) (hcg : c ≠ g) (hlg : l ≠ g) :
    Calls Tryz.prog 76 #[.pointer (some ⟨L, 0, none⟩), cV cc] W
      fun e w' => e = .returned (.bool false) ∧ Ro r l cb g gw gh (rk CC n i) w' ∧ Rd c l s p (spent x) w' ∧ Tn W w' [l, g] := by
  have hgw : 1 ≤ gw := by
    rcases Nat.eq_zero_or_pos gw with h | h
    · rw [h, Nat.zero_mul] at hn; omega
    · exact h
  obtain ⟨xx, hxx⟩ : ∃ x, i % gw = x := ⟨_, rfl⟩
  obtain ⟨yy, hyy⟩ : ∃ y, i / gw = y := ⟨_, rfl⟩
  have hx : xx < gw := by rw [← hxx]; exact Nat.mod_lt _ (by omega)
  have hy : yy < gh := by rw [← hyy, Nat.div_lt_iff_lt_mul (by omega), Nat.mul_comm, hn]; exact hi
  have hk : yy * gw + xx = i := by rw [← hxx, ← hyy, Nat.mul_comm]; exact Nat.div_add_mod i gw
  have i16 : n ≤ 268435456 := by rw [← hn]; exact Nat.le_trans (Nat.mul_le_mul hw hh) (by decide)
  have m2 : (i : Int) % (gw : Int) = (xx : Int) := by rw [← hxx]; rfl
  have d2 : (i : Int) / (gw : Int) = (yy : Int) := by rw [← hyy]; rfl
  have xb : xx ≤ 16384 := by omega
  have yb : yy ≤ 16384 := by omega
  obtain ⟨I, hI⟩ : ∃ I : Int, (i : Int) = I := ⟨_, rfl⟩
  obtain ⟨G, hG⟩ : ∃ G : Int, (gw : Int) = G := ⟨_, rfl⟩
  obtain ⟨X, hX0⟩ : ∃ G : Int, (xx : Int) = G := ⟨_, rfl⟩
  obtain ⟨Y, hY0⟩ : ∃ G : Int, (yy : Int) = G := ⟨_, rfl⟩
  rw [hI, hG, hX0] at m2
  rw [hI, hG, hY0] at d2
  have I0 : 0 ≤ I := by omega
  have G0 : 0 < G := by omega
  have m1 : I.tmod G = X := by rw [Int.tmod_eq_emod_of_nonneg I0, m2]
  have d1 : I.tdiv G = Y := by rw [Int.tdiv_eq_ediv_of_nonneg I0, d2]
  have n1 : (G == 0) = false := by rw [beq_eq_false_iff_ne]; omega
  have n2 : ¬ G = 0 := by omega
  have ww1 : IntKind.i64.wrap X = X := IntWalk.i64_in _ (by omega)
  have ww2 : IntKind.i64.wrap Y = Y := IntWalk.i64_in _ (by omega)
  have ww3 : wrap64 X = X := IntWalk.wrap64_in _ (by omega)
  have ww4 : wrap64 Y = Y := IntWalk.wrap64_in _ (by omega)
  obtain ⟨D, hD⟩ : ∃ D : Int, (n : Int) - (i : Int) = D := ⟨_, rfl⟩
  have ww5 : IntKind.i64.wrap (I + 1) = I + 1 := IntWalk.i64_in _ (by omega)
  have ww6 : IntKind.i64.wrap (D - 1) = D - 1 := IntWalk.i64_in _ (by omega)
  have HDD := Lib.hid hD
  have KW := fun u (h : Ro r l cb g gw gh (rk CC n i) u) => width_calls r l cb g gw gh _ u h
  rw [hG] at KW
  have KW := Lib.hid KW
  have KS := fun u (h : Ro r l cb g gw gh (rk CC n i) u) (hl : Led l x.ls u) => set_no r l cb g gw gh i xx yy CC (rk CC n i) x u hx hy hw hh hk h hl R.ok hr hst
  rw [hcc, hX0, hY0] at KS
  have hok := spent_ok R.ok hr hst
  have HOK := Lib.hid hok
  have KS := Lib.hid KS
  have HP := Lib.hid P
  have HO := Lib.hid O
  have HR := Lib.hid R
  have HII := Lib.hid hI
  clear hxx hyy hx hy hk hi hn hw hh hbd hcc hr hst hok P O R hI hG hX0 hY0 xb yb i16 hgw hD
  have W0c := World.grownBy_alloc W (.cells #[.int .u8 (cc.r : Nat), .int .u8 (cc.g : Nat), .int .u8 (cc.b : Nat), .int .u8 (cc.a : Nat)] 67) none
  have HG0 := Lib.hid W0c
  have hX := blk_at (w := W) (o := .cells #[.int .u8 (cc.r : Nat), .int .u8 (cc.g : Nat), .int .u8 (cc.b : Nat), .int .u8 (cc.a : Nat)] 67)
  have HX := Lib.hid hX
  have P0 := HP.out.turned (Tn.gb W0c (S := []) (by simp)) (by simp)
  have HP0 := Lib.hid P0
  have HO0 := Lib.hid (HO.out.grown W0c (by simp) (by simp) (by simp))
  have HR0 := Lib.hid (HR.out.grown W0c)
  clear hX W0c P0
  unfold cV cQ at KS
  unfold cV cQ
  go_enter Tryz.func76, Tryz.ntmps76
  go_upto_region 1 with fail
  have hlw := HP.out.lt
  have hlw2 := HR.out.llt
  have hlw3 := HO.out.buf.glt
  obtain ⟨i0, hi0⟩ : ∃ i, W.heap.size = i := ⟨_, rfl⟩
  rw [hi0] at HX hlw hlw2 hlw3 ⊢
  have HI5 := Lib.hid (show i0 ∉ [l, g] by simp; omega)
  have HI0 := Lib.hid hi0
  generalize W.alloc (.cells #[.int .u8 (cc.r : Nat), .int .u8 (cc.g : Nat), .int .u8 (cc.b : Nat), .int .u8 (cc.a : Nat)] 67) = w0 at HG0 HX HP0 HO0 HR0 ⊢
  clear hi0
  have cr := HP0.out.cr
  have ci := HP0.out.ci
  rw [HII.out] at ci
  have x0 := blk_cell HX.out 0
  have x1 := blk_cell HX.out 1
  have x2 := blk_cell HX.out 2
  have x3 := blk_cell HX.out 3
  simp only [List.getElem?_toArray, List.getElem?_cons_succ, List.getElem?_cons_zero] at x0 x1 x2 x3
  go_region_held3 (fun w' => w'.cell? ⟨L, 261, none⟩ = some (.pointer (some ⟨r, 0, none⟩)) ∧ w'.cell? ⟨L, 262, none⟩ = some (.int .i64 I) ∧ w'.cell? ⟨i0, 0, none⟩ = some (.int .u8 (cc.r : Nat)) ∧ w'.cell? ⟨i0, 1, none⟩ = some (.int .u8 (cc.g : Nat)) ∧ w'.cell? ⟨i0, 2, none⟩ = some (.int .u8 (cc.b : Nat)) ∧ w'.cell? ⟨i0, 3, none⟩ = some (.int .u8 (cc.a : Nat))) (go_keep)
    (first
      | (go_at_call 47; (with_reducible refine (KW.out _ (HO0.out.grown (gb_drew w0 none) (by simp) (by simp) (by simp))).mono ?_); rintro e u ⟨rfl, rfl⟩)
      | (go_at_call 96; (with_reducible refine (KS.out _ (HO0.out.grown (gb_drew w0 none) (by simp) (by simp) (by simp)) (HR0.out.grown (gb_drew w0 none)).led).mono ?_); rintro e w5 ⟨rfl, ⟨O5, L5⟩, T5⟩; have T6 : Tn w0 w5 [l, g] := (Tn.drew w0 _).trans T5; have P5 := HP0.out.turned T6 (by simp; omega); have cr := P5.cr; have ci := P5.ci; rw [HII.out] at ci; have X5 := (T6.block i0 (blk_lt HX.out) HI5.out).trans HX.out; have x0 := blk_cell X5 0; have x1 := blk_cell X5 1; have x2 := blk_cell X5 2; have x3 := blk_cell X5 3; simp only [List.getElem?_toArray, List.getElem?_cons_succ, List.getElem?_cons_zero] at x0 x1 x2 x3))
  all_goals
    have HB5 := Lib.hid (And.intro O5 (And.intro L5 T6))
    clear P5 O5 L5 T5 T6 X5 x0 x1 x2 x3 cr ci m1 m2 d1 d2 n1 n2 ww1 ww2 ww3 ww4 KS KW
    go_wp2
    go_ret
    have hnc : c ∉ [l, g] := by simp; omega
    exact ⟨rfl, HB5.out.1, ⟨HR0.out.so.turned HB5.out.2.2 hnc, HB5.out.2.1, HOK.out⟩, (Tn.gb HG0.out (S := [l, g]) (by simp)).trans HB5.out.2.2⟩

end Go.Proofs.YtmhghkgcfgacdaaGreat.Qo

/- Layer 26: what is known behind a step is kept; what the loop over steps carries. -/
namespace Go.Proofs.YtmhghkgcfgacdaaGreat.Qo
open Go.ChangeShapes Go.WideShapes Go.ChangeAt Go.RowKit
open Go.Proofs.YtmhghkgcfgacdaaGreat.Le Go.Proofs.YtmhghkgcfgacdaaGreat.Tk Go.Proofs.YtmhghkgcfgacdaaGreat.Sr Go.Proofs.YtmhghkgcfgacdaaGreat.Sh Go.Proofs.YtmhghkgcfgacdaaGreat.Qw
open Go.Proofs.YtmhghkgcfgacdaaGreat.Ra hiding bt
set_option linter.unusedVariables false

theorem st4_far (C : Array Value) (o r g bl a k : Nat) (h : k < o ∨ o + 4 ≤ k) : (st4 C o r g bl a)[k]? = C[k]? := by
  unfold st4
  rw [set_oth (by omega), set_oth (by omega), set_oth (by omega), set_oth (by omega)]
theorem st4_at (C : Array Value) (o : Nat) (c : C4) (j : Nat) (hj : j < 4) (h : o + 4 ≤ C.size) : (st4 C o c.r c.g c.b c.a)[o + j]? = some (.int .u8 (c.ch j : Nat)) := by
  unfold st4
  have : j = 0 ∨ j = 1 ∨ j = 2 ∨ j = 3 := by omega
  rcases this with rfl | rfl | rfl | rfl
  · rw [set_oth (by omega), set_oth (by omega), set_oth (by omega), Nat.add_zero, set_own (by omega)]; rfl
  · rw [set_oth (by omega), set_oth (by omega), set_own (by simp; omega)]; rfl
  · rw [set_oth (by omega), set_own (by simp; omega)]; rfl
  · rw [set_own (by simp; omega)]; rfl
theorem MC.keep {C : Array Value} {last : C4} {seen : Nat → C4} (h : MC C last seen) (hs : 260 ≤ C.size) (c : C4) : MC (kpC C c.r c.g c.b c.a) c (fun k => if k = pl c then c else seen k) := by
  have hp := pl_lt c
  have hs1 : (st4 C 0 c.r c.g c.b c.a).size = C.size := st4_size _ _ _ _ _ _
  refine ⟨fun j hj => ?_, fun k j hk hj => ?_⟩
  · unfold kpC
    rw [st4_far _ _ _ _ _ _ _ (by omega)]
    have := st4_at C 0 c j hj (by omega)
    rwa [Nat.zero_add] at this
  · unfold kpC
    show (st4 (st4 C 0 c.r c.g c.b c.a) (4 + 4 * pl c) c.r c.g c.b c.a)[4 + 4 * k + j]? = some (.int .u8 (((if k = pl c then c else seen k : C4).ch j : Nat)))
    by_cases e : k = pl c
    · rw [if_pos e, e]
      exact st4_at _ _ c j hj (by rw [hs1]; omega)
    · rw [if_neg e, st4_far _ _ _ _ _ _ _ (by omega), st4_far _ _ _ _ _ _ _ (by omega)]
      exact h.seen k j hk hj
theorem PB.keep {L c r i n : Nat} {last : C4} {seen : Nat → C4} {C : Array Value} {w w' : World} (h : PB L c r last seen i n C w) (cc : C4) (hb : w'.heap[L]? = some (.cells (kpC C cc.r cc.g cc.b cc.a) 124 (0, 0))) :
    PB L c r cc (fun k => if k = pl cc then cc else seen k) i n (kpC C cc.r cc.g cc.b cc.a) w' := by
  have hs := h.size
  have hp := pl_lt cc
  have e : ∀ k, 260 ≤ k → (kpC C cc.r cc.g cc.b cc.a)[k]? = C[k]? := fun k hk => by
    unfold kpC
    rw [st4_far _ _ _ _ _ _ _ (by right; have : plQ cc.r cc.g cc.b cc.a = pl cc := rfl; omega), st4_far _ _ _ _ _ _ _ (by omega)]
  exact ⟨hb, by rw [kpC_size]; exact hs, h.mc.keep (by omega) cc, by rw [e 260 (by decide)]; exact h.pc, by rw [e 261 (by decide)]; exact h.pr, by rw [e 262 (by decide)]; exact h.pi, by rw [e 263 (by decide)]; exact h.pn⟩

/-- The blocks of a reading: all are other ones. -/
structure BQ (W : World) (c l r cb g L : Nat) : Prop where
  fb : FB W c l r cb g
  lt : L < W.heap.size
  xc : L ≠ c
  xl : L ≠ l
  xr : L ≠ r
  xb : L ≠ cb
  xg : L ≠ g
/-- What the loop carries: j steps are done. -/
structure QI (W : World) (c l r cb g L gw gh n : Nat) (s : ByteArray) (x : St) (R : QR) (i0 : Nat) (w : World) : Prop where
  pb : ∃ C, PB L c r R.last R.seen R.i n C w
  rd : Rd c l s R.p (stp x R.N) w
  ro : Ro r l cb g gw gh (rk (CF R) n R.i) w
  fl : Fl i0 0 0 0 w
  tn : Tn W w [c, l, g, L]
/-- Behind the loop. -/
def RQ (W : World) (c l r cb g L gw gh n J f p N : Nat) (s : ByteArray) (x : St) (e : Ending) (w' : World) : Prop :=
  ∃ (q : Nat) (y : St), Rd c l s q y w' ∧ Tn W w' [c, l, g, L] ∧ Lm x y ∧ y.by_ = x.by_ ∧ (∃ R, Ro r l cb g gw gh R w') ∧
    (((sq s J).i = n ∧ e = .returned okT ∧ q = (sq s J).p ∧ y = stp x (sq s J).N ∧ Ro r l cb g gw gh (rk (CF (sq s J)) n n) w') ∨
     ((sq s J).i < n ∧ f ≠ 0 ∧ e = .returned (flF 5 f p) ∧ y.r = 0) ∨
     (x.s < x.st + (N : Int) ∧ (∃ j : Nat, j ≤ s.size ∧ e = .returned (flF 5 4 j)) ∧ y.r ≠ 0))
theorem stp_s (x : St) (n : Nat) : (stp x n).s = x.s := rfl
theorem stp_t (x : St) (n : Nat) : (stp x n).st = x.st + (n : Int) := rfl

/-- What is known of an end, behind j steps, where pixels lack. -/
structure QF (s : ByteArray) (n J f p N : Nat) (R : QR) (j : Nat) : Prop where
  short : (s.size ≤ R.p ∨ s.size < R.p + nb (bt s R.p)) → (sq s J).i < n ∧ f = 1 ∧ p = s.size
  n1 : R.N + 1 ≤ N
  n2 : R.p < s.size → nb (bt s R.p) ≠ 1 → R.N + 2 ≤ N
  bad : R.p < s.size → R.p + nb (bt s R.p) ≤ s.size → n < R.i + tms (bt s R.p) → (sq s J).i < n ∧ f = 2 ∧ p = R.p
  go : Gq s n R → j < J ∧ R.N + rdn (bt s R.p) + tms (bt s R.p) + 1 ≤ N
theorem QE.facts {s : ByteArray} {n J f p N : Nat} (h : QE s n J f p N) {j : Nat} (hj : j ≤ J) (hi : (sq s j).i < n) : QF s n J f p N (sq s j) j := by
  by_cases e : j = J
  · subst e
    have hb1 := nb_1 (bt s (sq s j).p)
    have ht : nb (bt s (sq s j).p) ≠ 1 → tms (bt s (sq s j).p) = 1 := fun h => by
      unfold nb at h
      unfold tms
      split at h
      · rw [if_pos (by omega)]
      · split at h
        · rw [if_pos (by omega)]
        · split at h
          · rw [if_pos (by omega)]
          · exact absurd rfl h
    rcases h.ed with ⟨h1, _⟩ | ⟨h1, h2, h3, h4, h5⟩ | ⟨h1, h2, h3, h4, h5, h6⟩ | ⟨h1, h2, h3, h4, h5, h6, h7⟩
    · omega
    · exact ⟨fun _ => ⟨h1, h3, h4⟩, by omega, fun g => by omega, fun g => by omega, fun g => absurd g.p (by omega)⟩
    · exact ⟨fun _ => ⟨h1, h4, h5⟩, by omega, fun _ _ => by omega, fun _ g => by omega, fun g => absurd g.nb (by omega)⟩
    · exact ⟨fun g => by omega, by omega, fun _ g => by have := ht g; omega, fun _ _ _ => ⟨h1, h5, h6⟩, fun g => absurd g.t (by omega)⟩
  · have hlt : j < J := by omega
    have g := h.go j hlt
    have hN := h.Nj hlt
    have h1 := rdn_1 (bt s (sq s j).p)
    have h2 := tms_1 (bt s (sq s j).p)
    have hp := g.p
    have hnb := g.nb
    have htt := g.t
    exact ⟨fun q => by omega, by omega, fun _ _ => by omega, fun _ _ q => by omega, fun _ => ⟨hlt, hN⟩⟩

end Go.Proofs.YtmhghkgcfgacdaaGreat.Qo
