/- Layer 18: the code's Packets of what Pack wrote. -/
import Derived.Test.YtfjnhpdlellooaaPk5
namespace Go.Proofs.Ytfjnhpdlellooaa.Pk
open Go.ChangeShapes Go.WideShapes Go.ChangeAt Go.RowKit
set_option linter.unusedVariables false

theorem undL : Try.prog.underlying 22 = some (.slice 9) := by kernel_rfl
theorem rowS : (Try.prog.info? 9).map (fun i => (i.zero, i.size, i.bytes)) = some (some (.string ByteArray.empty), 1, 16) := by kernel_rfl
theorem infoS : ∃ i : TypeInfo, Try.prog.info? 9 = some i ∧ i.zero = some (.string ByteArray.empty) ∧ i.size = 1 ∧ i.bytes = 16 := by
  have h := rowS
  cases e : Try.prog.info? 9 with
  | none => rw [e] at h; cases h
  | some i =>
    rw [e] at h
    simp only [Option.map_some, Option.some.injEq, Prod.mk.injEq] at h
    exact ⟨i, rfl, h.1, h.2.1, h.2.2⟩
def strs (L : Nat → ByteArray) : Nat → List Value
  | 0 => []
  | n + 1 => strs L n ++ [.string (L n)]
/-- A box that stays while a row of strings is written. -/
theorem box_row {w w' : World} {v : Value} {B n k b : Nat} {xs : List Value} {C : Array Value} {t : TypeId} (O : w.ownsRow B 9 k v n xs) (h : w.grownBy w' v.ownBlock) (hb : w.heap[b]? = some (.cells C t (0, 0))) (ht : t ≠ 9) : w'.heap[b]? = some (.cells C t (0, 0)) := by
  refine (h.block b (blk_in hb) ?_).trans hb
  rcases O.2 with ⟨rfl, _⟩ | ⟨a, c, cur, rfl, _, ha, _⟩
  · simp [Value.ownBlock]
  · simp [Value.ownBlock]
    rintro rfl
    rw [hb] at ha
    simp at ha
    exact ht ha.2

theorem own_form {w : World} {v : Value} {B n k : Nat} {e : TypeId} {xs : List Value} (O : w.ownsRow B e k v n xs) : ∃ a c, v = .slice a n c := by
  rcases O.2 with ⟨rfl, rfl⟩ | ⟨a, c, cur, rfl, _⟩
  · exact ⟨_, _, rfl⟩
  · exact ⟨_, _, rfl⟩

set_option maxRecDepth 100000 in
set_option maxHeartbeats 4000000 in
theorem packets_calls (s : ByteArray) (sz N K : Nat) (L : Nat → ByteArray) (z : List UInt8) (W : World) (hN : N ≤ 300) (hsz : 1 ≤ sz ∧ sz ≤ 4) (hL : ∀ k, k < N → (L k).size = sz) (hs : s.data.toList = (pk L N K).2 ++ z) (hK : (pk L N K).1 = N) (hm : s.size ≤ 10000) :
    Calls Try.prog 7 #[.string s, .int .i64 sz, .int .i64 N] W fun e w' => ∃ v, e = .returned (.tuple #[v, .int .i64 ((pk L N K).2.length : Nat), .int .i64 0]) ∧ w'.ownsRow W.heap.size 9 1 v N (strs L N) ∧ W.grownBy w' none := by
  obtain ⟨i0, hi0, hz0, hz1, hz2⟩ := infoS
  have HI0 := Lib.hid hi0
  have HZ0 := Lib.hid hz0
  have HZ1 := Lib.hid hz1
  have HZ2 := Lib.hid hz2
  have HL := Lib.hid hL
  have HS := Lib.hid hs
  have HK := Lib.hid hK
  have s1 : ¬ (sz : Int) < 1 := by omega
  have s2 : ¬ (4 : Int) < (sz : Int) := by omega
  have s3 : ¬ (N : Int) < 0 := by omega
  clear hi0 hz0 hz1 hz2 hL hs hK
  go_enter Try.func7, Try.ntmps7
  go_wp2
  go_loopg [9, 10] N (fun q lv av wr => ∃ (k i : Nat) (t : List UInt8) (v : Value), pk L N k = (i, t) ∧ i ≤ N ∧ q = N - i ∧ v = lv ∧ av = .int .i64 (t.length : Nat) ∧ t.length ≤ s.size ∧ wr.ownsRow W.heap.size 9 1 v i (strs L i) ∧ W.grownBy wr none)
  case atStart => exact ⟨0, 0, [], _, rfl, by omega, by omega, rfl, rfl, Nat.zero_le _, World.ownsRow_nil _ _ _ _, gbr _ _⟩
  case round =>
    obtain ⟨k, i, t, v, hk, hi, rfl, rfl, rfl, hts, own, g⟩ := hrel
    obtain ⟨va, vc, rfl⟩ := own_form own
    have HO := Lib.hid own
    have HG := Lib.hid g
    have HPK := Lib.hid hk
    clear own g hk
    obtain ⟨a, ha⟩ : ∃ a, t.length = a := ⟨_, rfl⟩
    rw [ha] at hts ⊢
    by_cases hlt : i < N
    · have d1 : (i : Int) < (N : Int) := by omega
      obtain ⟨h, F, M, t', hk', hh, hF, hM, ⟨hx, hv⟩, hn1, hnN, hF1, hM1, htl, hts', hpc⟩ := pk_read HL.out HS.out HK.out HPK.out hlt
      rw [ha] at htl hpc
      simp only [ha] at hv
      have hx' : a < s.size := by omega
      have hv' : (s[a]'hx').toNat = h := hv
      obtain ⟨n, hn⟩ : ∃ n, F * M = n := ⟨_, rfl⟩
      rw [hn] at hk' hn1 hnN
      obtain ⟨G, hG⟩ : ∃ G, F * sz = G := ⟨_, rfl⟩
      have hGi : (F : Int) * (sz : Int) = (G : Int) := by rw [← Int.natCast_mul, hG]
      have hG4 : G ≤ 512 := by rw [← hG]; exact Nat.mul_le_mul hF1 hsz.2
      rw [hG] at htl
      have HPC := Lib.hid hpc
      have HK1 := Lib.hid hk'
      have HTL := Lib.hid htl
      have HNN := Lib.hid hn
      have HGG := Lib.hid hG
      have d2 : ((a : Int) == (s.size : Int)) = false := by rw [beq_eq_false_iff_ne]; omega
      have d3 : (a : Int) < (s.size : Int) := by omega
      have KP := Lib.hid (fun u => packet_calls h hh u)
      rw [hF, hM] at KP
      have KC := Lib.hid (fun u => count_calls F M hF1 hM1 u)
      rw [hn] at KC
      clear hpc hk' htl hv hn hG hF hM hx
      obtain ⟨a1, ha1⟩ : ∃ a1, a + 1 = a1 := ⟨_, rfl⟩
      have w1 : IntKind.i64.wrap ((a : Int) + 1) = (a1 : Int) := by rw [IntWalk.i64_in _ (by omega)]; omega
      have HA1 := Lib.hid ha1
      have d4 : ¬ (N : Int) - (i : Int) < (n : Int) := by omega
      have d5 : ¬ (s.size : Int) - (a1 : Int) < (G : Int) := by have := HTL.out; omega
      have w2 : IntKind.i64.wrap ((F : Int) * (sz : Int)) = (G : Int) := by rw [hGi]; exact IntWalk.i64_in _ (by omega)
      clear ha1
      go_wp2_with fail
      refine (KP.out _).mono ?_
      rintro e u1 ⟨rfl, g1⟩
      have HO1 := Lib.hid ((own_gb HO.out g1).alloc (.cells #[.int .i64 F, .int .i64 M] 33))
      have HG1 := Lib.hid (gbt (gbt HG.out g1) (World.grownBy_alloc u1 (.cells #[.int .i64 F, .int .i64 M] 33) none))
      have HB1 := Lib.hid (show (u1.alloc (.cells #[.int .i64 F, .int .i64 M] 33)).heap[u1.heap.size]? = some (.cells #[.int .i64 F, .int .i64 M] 33 (0, 0)) from heap_alloc_new u1 _)
      clear g1
      go_wp2_with fail
      have b0 := cell_in HB1.out 0
      have b1 := cell_in HB1.out 1
      generalize u1.alloc (.cells #[.int .i64 F, .int .i64 M] 33) = u2 at HO1 HG1 HB1 b0 b1 ⊢
      obtain ⟨pb, hpb⟩ : ∃ pb, u1.heap.size = pb := ⟨_, rfl⟩
      rw [hpb] at HB1 b0 b1 ⊢
      clear hpb
      go_wp2_with fail
      refine (KC.out _).mono ?_
      rintro e u3 ⟨rfl, g3⟩
      have HO3 := Lib.hid (own_gb HO1.out g3)
      have HG3 := Lib.hid (gbt HG1.out g3)
      have HB3 := Lib.hid ((g3.block pb (blk_in HB1.out) (by simp)).trans HB1.out)
      have b0 := cell_in HB3.out 0
      clear g3 HO1 HG1 HB1 HO HG
      go_wp2_with fail
      go_loopg [9, 10, 55] F (fun q lv av fv wr => ∃ (f x : Nat) (v : Value), f ≤ F ∧ q = F - f ∧ fv = .int .i64 f ∧ v = lv ∧ av = .int .i64 x ∧ x = a1 + f * sz ∧ wr.ownsRow W.heap.size 9 1 v (i + f * M) (strs L (i + f * M)) ∧ W.grownBy wr none ∧ wr.heap[pb]? = some (.cells #[.int .i64 F, .int .i64 M] 33 (0, 0)))
      case atStart => exact ⟨0, a1, _, Nat.zero_le _, rfl, rfl, rfl, rfl, by rw [Nat.zero_mul]; rfl, by rw [Nat.zero_mul]; exact HO3.out, HG3.out, HB3.out⟩
      case round =>
        obtain ⟨f, x, v, hf, rfl, rfl, rfl, rfl, hxa, own, g, bb⟩ := hrel
        obtain ⟨va, vc, rfl⟩ := own_form own
        have HO := Lib.hid own
        have HG := Lib.hid g
        have HB := Lib.hid bb
        have HXA := Lib.hid hxa
        have b1 := cell_in bb 1
        clear own g bb hxa
        by_cases hfF : f < F
        · have d6 : (f : Int) < (F : Int) := by omega
          obtain ⟨base, hbase⟩ : ∃ q, i + f * M = q := ⟨_, rfl⟩
          rw [hbase] at HO ⊢
          have hfM : f * M + M ≤ n := by
            rw [← HNN.out, ← Nat.succ_mul]
            exact Nat.mul_le_mul hfF (Nat.le_refl M)
          have hfz : f * sz + sz ≤ G := by
            rw [← HGG.out, ← Nat.succ_mul]
            exact Nat.mul_le_mul hfF (Nat.le_refl sz)
          have hbM : base + M ≤ N := by omega
          obtain ⟨x2, hx2⟩ : ∃ x2, x + sz = x2 := ⟨_, rfl⟩
          have hxs : x2 ≤ s.size := by have := HXA.out; have := HTL.out; have := HA1.out; omega
          have w3 : IntKind.i64.wrap ((x : Int) + (sz : Int)) = (x2 : Int) := by rw [IntWalk.i64_in _ (by omega)]; omega
          have e1 : (x : Int) ≤ (x2 : Int) := by omega
          have e2 : (x2 : Int) ≤ (s.size : Int) := by omega
          have e3 : (0 : Int) ≤ (x : Int) := by omega
          have hpx : ∀ m, m < M → s.extract x x2 = L (base + m) := fun m hm => by
            have := HPC.out f hfF m hm
            rw [hbase] at this
            rw [← this, ← hx2, HXA.out, ← HA1.out]
          obtain ⟨px, hpxe⟩ : ∃ z, s.extract x x2 = z := ⟨_, rfl⟩
          rw [hpxe] at hpx
          have HPX := Lib.hid hpx
          have HBA := Lib.hid hbase
          have HX2 := Lib.hid hx2
          clear hpx hfM hfz hx2 hbase
          go_wp2_with fail
          go_loopg [9, 59] M (fun q lv mv wr => ∃ (m : Nat) (v : Value), m ≤ M ∧ q = M - m ∧ mv = .int .i64 m ∧ v = lv ∧ wr.ownsRow W.heap.size 9 1 v (base + m) (strs L (base + m)) ∧ W.grownBy wr none ∧ wr.heap[pb]? = some (.cells #[.int .i64 F, .int .i64 M] 33 (0, 0)))
          case atStart => exact ⟨0, _, Nat.zero_le _, rfl, rfl, rfl, HO.out, HG.out, HB.out⟩
          case round =>
            obtain ⟨m, v, hm, rfl, rfl, rfl, own, g, bb⟩ := hrel
            obtain ⟨va, vc, rfl⟩ := own_form own
            have HO4 := Lib.hid own
            have HG4 := Lib.hid g
            have HB4 := Lib.hid bb
            have hgs := g.size
            clear own g bb
            by_cases hmM : m < M
            · have e4 : (m : Int) < (M : Int) := by omega
              go_wp2_with (at_builtin; refine wpList_append_own _ rfl (.tmp 61) (.tmp 68) 22 rfl W.heap.size 9 i0 (.string ByteArray.empty) 1 16 undL HI0.out HZ0.out HZ1.out HZ2.out rfl (by decide) _ (base + m) (strs L (base + m)) rfl (HO4.out.alloc _) ⟨wr.heap.size, 0, none⟩ 1 1 [.string px] rfl rfl one_new ?c2 ?c3 ?c4 ?c5 ?_)
              case c2 => intro y hy; simp at hy; subst hy; rfl
              case c3 => unfold maxLen; omega
              case c4 => omega
              case c5 => rw [al_size]; omega
              intro v' w4 hown' hgrow _
              have HO5 := Lib.hid (show w4.ownsRow W.heap.size 9 1 v' (base + (m + 1)) (strs L (base + (m + 1))) from by
                show w4.ownsRow W.heap.size 9 1 v' (base + m + 1) (strs L (base + m) ++ [.string (L (base + m))])
                rw [← HPX.out m hmM]
                exact hown')
              have HG5 := Lib.hid (gb_row (gbt HG4.out (World.grownBy_alloc _ _ none)) (HO4.out.alloc _) (Nat.le_refl _) hgrow)
              have HB5 := Lib.hid (box_row (HO4.out.alloc _) hgrow ((World.grownBy_alloc wr (.cells #[.string px] 9) none).block pb (blk_in HB4.out) (by simp) |>.trans HB4.out) (by decide))
              clear hown' hgrow HO4 HG4 HB4
              go_wp2
              go_roundg (M - (m + 1))
              case measure => omega
              case rel => exact ⟨m + 1, _, by omega, rfl, by go_num, rfl, HO5.out, HG5.out, HB5.out⟩
            · obtain rfl : m = M := by omega
              have e4 : ¬ (m : Int) < (m : Int) := by omega
              go_wp2
              go_roundg (F - (f + 1))
              case measure => omega
              case rel => exact ⟨f + 1, x2, _, by omega, rfl, by go_num, rfl, rfl, by rw [← HX2.out, HXA.out, Nat.succ_mul]; omega, by rw [Nat.succ_mul, ← Nat.add_assoc, HBA.out]; exact HO4.out, HG4.out, HB4.out⟩
        · obtain rfl : f = F := by omega
          have d6 : ¬ (f : Int) < (f : Int) := by omega
          go_wp2
          go_roundg (N - (i + n))
          case measure => omega
          case rel => exact ⟨k + 1, i + n, t', _, HK1.out, hnN, rfl, rfl, by rw [HTL.out, HXA.out, HGG.out, ← HA1.out], by omega, by rw [← HNN.out]; exact HO.out, HG.out⟩
    · obtain rfl : i = N := by omega
      have d1 : ¬ (i : Int) < (i : Int) := by omega
      have he : (pk L i K).2.length = a := by
        rw [← pk_one (L := L) (N := i) (i := k) (j := K) (by rw [HPK.out]; exact Nat.le_refl _) (by rw [HK.out]; exact Nat.le_refl _), HPK.out]
        exact ha
      have HE := Lib.hid he
      clear he ha
      go_wp2
      refine bodyPost_ret (v := .tuple #[.slice va i vc, .int .i64 a, .int .i64 0]) (by simp only [results, Try.results7]; go_simp) rfl ⟨_, by rw [HE.out], HO.out, HG.out⟩

end Go.Proofs.Ytfjnhpdlellooaa.Pk
