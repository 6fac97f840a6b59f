/- Package stretch: the closure's contract. -/
import Derived.Test.YteimfjlogjdakaaSt1
namespace Go.Proofs.Yteimfjlogjdakaa.St
open Go.ChangeShapes Go.WideShapes Go.ChangeAt Go.RowKit Go.Shelf
open Go.Proofs.Yteimfjlogjdakaa.Le Go.Proofs.Yteimfjlogjdakaa.Rf
set_option linter.unusedVariables false
attribute [local go_sem] Oper.semAt_some

noncomputable def encsS (s : ByteArray) (m : Nat) (j : Nat) : Array Value := #[.int .i64 ((sk s m (ps s m j) : Nat) : Int), .int .u8 ((bu s (ps s m j)).toNat : Int)]

set_option maxRecDepth 100000 in
set_option maxHeartbeats 2000000 in
theorem all_seq (n : Nat) (hn : 3 ≤ n) (s : ByteArray) (m N Bs Bm : Nat) (hm1 : 1 ≤ m) (hm2 : m ≤ 1000) (hsz : s.size ≤ 1000000) (hN : SN s m N) (w : World) (hs : w.heap[Bs]? = some (.cells #[.string s] 9 (0, 0))) (hm : w.heap[Bm]? = some (.cells #[.int .i64 m] 3 (0, 0))) :
    Seq Try.prog n 17 #[.pointer (some ⟨Bs, 0, none⟩), .pointer (some ⟨Bm, 0, none⟩)] (encsS s m) N Bs [Bs, Bm] 5 w := fun l J W hW hJ hY h0 => by
  have b1 := (hW Bs (by simp)).trans hs
  have b2 := (hW Bm (by simp)).trans hm
  have hne : Bs ≠ Bm := fun e => by rw [e, b2] at b1; cases b1
  have HJ := Lib.hid hJ
  have HY := Lib.hid hY
  have HN := Lib.hid hN
  have hex : s.extract 0 s.size = s := by simp
  have b1' : W.heap[Bs]? = some (.cells #[.string (s.extract 0 s.size)] 9 (0, 0)) := by rw [hex]; exact b1
  have HB1 := Lib.hid b1'
  have HB2 := Lib.hid b2
  have HJ0 := Lib.hid h0
  clear hW hs hm hJ hY hN h0 b1 b2 b1' hex
  refine callsIn_of_wp Try.func17 rfl trivial ?_ rfl
  simp only [Try.ntmps17, List.size_toArray, List.length_cons, List.length_nil, Nat.reduceAdd, Nat.reduceSub, Array.replicate_succ, Array.replicate_zero, List.push_toArray, List.append_toArray, List.nil_append, List.cons_append]
  gi_wp2
  gi_loopw [] (fun wr => ∃ j, j ≤ N ∧ wr.heap[Bs]? = some (.cells #[.string (s.extract (ps s m j) s.size)] 9 (0, 0)) ∧ wr.heap[Bm]? = some (.cells #[.int .i64 m] 3 (0, 0)) ∧ J j wr) (fun wr => szAt Bs wr)
  case atStart => exact ⟨0, Nat.zero_le _, HB1.out, HB2.out, HJ0.out⟩
  case round =>
    obtain ⟨j, hj, c1, c2, hJj⟩ := hrel
    obtain ⟨i, hi⟩ : ∃ i, ps s m j = i := ⟨_, rfl⟩
    rw [hi] at c1
    have HJJ := Lib.hid hJj
    have HC1 := Lib.hid c1
    have HC2 := Lib.hid c2
    have d1 := blk_cell c1 0
    have d2 := blk_cell c2 0
    have f1 := blk_free c1 0
    simp only [List.getElem?_toArray, List.getElem?_cons_zero] at d1 d2
    have hz := ex_sz s i
    have HI := Lib.hid hi
    have hb1 := blk_lt c1
    obtain ⟨z, ez⟩ : ∃ z, s.extract i s.size = z := ⟨_, rfl⟩
    rw [ez] at d1 hz
    have HEZ := Lib.hid ez
    have HZ := Lib.hid hz
    clear hJj c1 c2 hi ez hz
    by_cases hlt : j < N
    · have hil : i < s.size := by rw [← HI.out]; exact HN.out.lt j hlt
      have h0' : 0 < z.size := by have := HZ.out; omega
      have h0 : (0 : Int) < (z.size : Int) := by omega
      have K := Lib.hid (fun u => alike_calls z m u h0' hm1 hm2 (by have := HZ.out; omega))
      gi_wp2_with fail
      refine ⟨trivial, fun h => (by cases h), (callsIn_wide.2 (K.out wr)).mono ?_⟩
      rintro e w2 ⟨k, rfl, hk, g2⟩
      have hk' : SK s m i k := SK.ex (by omega) (by rw [HEZ.out]; exact hk)
      have hps := ps_next HI.out hil hk'
      have hJ2 := HJ.out j wr w2 none HJJ.out g2 (fun r e => by cases e)
      have e1 := (g2.block Bs hb1 (by simp)).trans HC1.out
      have e2 := (g2.block Bm (blk_lt HC2.out) (by simp)).trans HC2.out
      obtain ⟨fn, tmps, assign, body, hy, hR⟩ := HY.out j w2 hJ2 (fun x hx => by
        simp at hx
        rcases hx with rfl | rfl
        · exact ⟨_, _, _, e1, by decide⟩
        · exact ⟨_, _, _, e2, by decide⟩) hlt
      obtain ⟨c, hc⟩ : ∃ c, bu s i = c := ⟨_, rfl⟩
      have hcz : bu z 0 = c := by rw [← HEZ.out, bu_ex s i 0 (by omega), Nat.add_zero]; exact hc
      have ez := bu_nat z 0 h0' hcz
      rw [encsS, HI.out, sk_is hk', hc] at hy
      rw [HEZ.out] at e1
      have d3 := blk_cell e1 0
      simp only [List.getElem?_toArray, List.getElem?_cons_zero] at d3
      have HE1 := Lib.hid e1
      have HE2 := Lib.hid e2
      have HPS := Lib.hid hps
      have HK := Lib.hid hk'
      have kz := hk.le
      have k1 := hk.k1
      clear e1 e2 hps hk hk' hJ2 K d1 d2 f1 hc hcz
      gi_wp2
      refine ⟨fun h => (by cases h), hR.mono ?_⟩
      rintro e w3 ⟨rfl, hJ3, hkq⟩
      have e1 := (hkq Bs (by simp)).trans HE1.out
      have e2 := (hkq Bm (by simp)).trans HE2.out
      have d4 := blk_cell e1 0
      have f4 := blk_free e1 0
      simp only [List.getElem?_toArray, List.getElem?_cons_zero] at d4
      have HW1 := Lib.hid e1
      have HW2 := Lib.hid e2
      have HJ3 := Lib.hid hJ3
      have kz1 : k ≤ z.size := by omega
      have hzx : z.extract k z.size = s.extract (i + k) s.size := by
        rw [← HEZ.out, ByteArray.extract_extract]
        congr 1
        rw [ex_sz]
        omega
      have HZX := Lib.hid hzx
      have HSZ := Lib.hid (show (z.extract k z.size).size < z.size by rw [ByteArray.size_extract]; omega)
      have HWR := Lib.hid (szAt_is (B := Bs) (w := wr) (z := z) ((blk_cell HC1.out 0).trans (by rw [HEZ.out]; rfl)))
      clear e1 e2 hJ3 hkq hzx d3 hy hR ez
      gi_wp2
      go_roundw
      case rel =>
        refine ⟨j + 1, hlt, ?_, ?_, ?_⟩
        · rw [HPS.out, ← HZX.out]
          exact blk_set HW1.out 0 _
        · exact blk_other HW2.out (fun e => hne e.symm)
        · exact HJ.out (j + 1) w3 _ (some Bs) HJ3.out (gb_set w3 Bs 0 _) (fun r e => by cases e; rfl)
      case measure =>
        rw [HWR.out, szAt_is ((blk_cell (blk_set HW1.out 0 _) 0).trans rfl)]
        exact HSZ.out
    · obtain rfl : j = N := by omega
      have hin : i = s.size := by rw [← HI.out]; exact HN.out.ed
      have hd0 : ¬ (0 : Int) < (z.size : Int) := by have := HZ.out; omega
      gi_wp2
      go_end0
      exact ⟨⟨_, rfl⟩, HJJ.out⟩

end Go.Proofs.Yteimfjlogjdakaa.St
