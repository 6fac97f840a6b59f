/- Layer 18: the code's Pack. -/
import Derived.Test.YtfjnhpdlellooaaPk1
import Derived.Laws.AppendOwn
import Derived.Laws.BytesString
import Derived.Lib.ConvBytes
import Derived.Lib.SlBytesRow
import Derived.Deep.AppendLies
namespace Go.Proofs.Ytfjnhpdlellooaa.Pk
open Go.ChangeShapes Go.WideShapes Go.ChangeAt Go.RowKit
set_option linter.unusedVariables false

theorem und8 : Try.prog.underlying 30 = some (.slice 5) := by kernel_rfl
theorem row8 : (Try.prog.info? 5).map (fun i => (i.zero, i.size, i.bytes)) = some (some (.int .u8 0), 1, 1) := by kernel_rfl
theorem info8 : ∃ i : TypeInfo, Try.prog.info? 5 = some i ∧ i.zero = some (.int .u8 0) ∧ i.size = 1 ∧ i.bytes = 1 := by
  have h := row8
  cases e : Try.prog.info? 5 with
  | none => rw [e] at h; cases h
  | some i =>
    rw [e] at h
    simp only [Option.map_some, Option.some.injEq, Prod.mk.injEq] at h
    exact ⟨i, rfl, h.1, h.2.1, h.2.2⟩
theorem undS : Try.prog.underlying 9 = some .string := by kernel_rfl
theorem StrAt.tail {b o i n m : Nat} {L : Nat → ByteArray} {w : World} (h : StrAt b o i n L w) (hm : m ≤ n) : StrAt b (o + m) (i + m) (n - m) L w := fun k hk => by
  have := h (m + k) (by omega)
  rw [← Nat.add_assoc, ← Nat.add_assoc] at this
  exact this
theorem StrAt.grown {b o i n : Nat} {L : Nat → ByteArray} {w w' : World} (h : StrAt b o i n L w) (g : w.grownBy w' none) : StrAt b o i n L w' := fun k hk => g.cell (h k hk) (by simp)
/-- Bytes as cells. -/
def bc (t : List UInt8) : List Value := t.map fun b => Value.int .u8 b.toNat
theorem bc_app (a b : List UInt8) : bc (a ++ b) = bc a ++ bc b := by unfold bc; rw [List.map_append]
theorem bc_str (s : ByteArray) : Lib.strCells s = bc s.data.toList := rfl
/-- A row of the call's own is written. -/
theorem gb_row {W w w' : World} {v : Value} {B n k : Nat} {e : TypeId} {xs : List Value} (g : W.grownBy w none) (O : w.ownsRow B e k v n xs) (hB : W.heap.size ≤ B) (h : w.grownBy w' v.ownBlock) : W.grownBy w' none := by
  refine ⟨h.os.trans g.os, h.tape.trans g.tape, h.output.trans g.output, Nat.le_trans g.size h.size, fun i hi _ => ?_⟩
  refine (h.block i (Nat.lt_of_lt_of_le hi g.size) ?_).trans (g.block i hi (by simp))
  rcases O.2 with ⟨rfl, _⟩ | ⟨a, c, cur, rfl, hb, _⟩
  · simp [Value.ownBlock]
  · simp [Value.ownBlock]
    omega
theorem blk_in {w : World} {b : Nat} {o : Obj} (h : w.heap[b]? = some o) : b < w.heap.size := by
  rcases Nat.lt_or_ge b w.heap.size with h' | h'
  · exact h'
  · simp [Array.getElem?_eq_none h'] at h
theorem own_gb {w w' : World} {v : Value} {B n k : Nat} {e : TypeId} {xs : List Value} (O : w.ownsRow B e k v n xs) (g : w.grownBy w' none) : w'.ownsRow B e k v n xs := by
  refine ⟨O.1, ?_⟩
  rcases O.2 with h | ⟨a, c, cur, h1, h2, h3, h4⟩
  · exact .inl h
  · exact .inr ⟨a, c, cur, h1, h2, (g.block a (blk_in h3) (by simp)).trans h3, h4⟩
theorem al_size (w : World) (o : Obj) : (w.alloc o).heap.size = w.heap.size + 1 := by show (w.heap.push o).size = _; simp
theorem one_new {w : World} {v : Value} {t : TypeId} : ∀ (j : Nat) u, [v][j]? = some u → (w.alloc (.cells #[v] t)).cell? ((⟨w.heap.size, 0, none⟩ : Addr).add j) = some u := by
  intro j u hu
  have hj : j = 0 := by
    rcases Nat.eq_zero_or_pos j with h | h
    · exact h
    · rw [List.getElem?_eq_none (by simp; omega)] at hu
      cases hu
  subst hj
  have hu' : u = v := by simpa using hu.symm
  subst hu'
  exact World.news_of_block (cs := #[u]) (t := t) (fr := (0, 0)) (heap_alloc_new w _) 0 u rfl
/-- The text of a row of bytes. -/
theorem conv_none (w : World) (p : Option Addr) (c : Nat) : (convert 30 9 (.slice p 0 c)).run Try.prog w = .ok (.string ByteArray.empty) w := by
  rw [run_convert_bytes_string w 30 9 5 _ 0 c und8 (by kernel_rfl) (by kernel_rfl)]
  cases p <;> simp [Conv.bytesToString, loadCells]
  all_goals rfl
theorem cell_in {w : World} {b : Nat} {C : Array Value} {t : TypeId} (h : w.heap[b]? = some (.cells C t (0, 0))) (o : Nat) : w.cell? ⟨b, o, none⟩ = C[o]? := by
  simp [World.cell?, h]
theorem row_conv {w : World} {B n : Nat} {v : Value} {l : List UInt8} (O : w.ownsRow B 5 1 v n (bc l)) : (convert 30 9 v).run Try.prog w = .ok (.string ⟨l.toArray⟩) w := by
  have hn : l.length = n := by
    have := O.1
    unfold bc at this
    rw [List.length_map] at this
    omega
  have hsz : (⟨l.toArray⟩ : ByteArray).size = n := by
    rw [← hn]
    simp [ByteArray.size]
  rcases O.2 with ⟨rfl, h0⟩ | ⟨g, cap, cur, rfl, hB, hg, hle, hmax, hcs, htk⟩
  · have : l = [] := List.eq_nil_of_length_eq_zero (by omega)
    subst this
    exact conv_none w none 0
  · have hb : Lib.Bytes w g 0 ⟨l.toArray⟩ := fun i hi => by
      rw [Nat.zero_add, cell_in hg i]
      have hin : i < n := by rw [← hsz]; exact hi
      have e : (bc l)[i]? = some (.int .u8 ((⟨l.toArray⟩ : ByteArray)[i].toNat : Int)) := by
        unfold bc
        rw [List.getElem?_map, List.getElem?_eq_getElem (by omega)]
        rfl
      rw [← htk, List.getElem?_take, if_pos (by omega)] at e
      rw [← e]
      exact (Array.getElem?_toList).symm
    have := Lib.run_convert_whole (P := Try.prog) w 30 5 9 und8 (by kernel_rfl) (by kernel_rfl) g 0 ⟨l.toArray⟩ hb cap
    rw [hsz] at this
    exact this
/-- The byte ahead of a packet. -/
theorem or128 : ∀ p : Fin 128, bits .or .i64 128 ((p.val : Nat) : Int) = 128 + ((p.val : Nat) : Int) := by decide +kernel
theorem hd_run (n : Nat) (h1 : 1 ≤ n) (h2 : n ≤ 128) : bits .or .i64 128 ((n : Int) - 1) % 256 = ((UInt8.ofNat (127 + n)).toNat : Int) := by
  have h := or128 ⟨n - 1, by omega⟩
  have e : (((⟨n - 1, by omega⟩ : Fin 128).val : Nat) : Int) = (n : Int) - 1 := by show ((n - 1 : Nat) : Int) = _; omega
  rw [e] at h
  rw [h, UInt8.toNat_ofNat']
  omega
theorem hd_lit (n : Nat) (h1 : 1 ≤ n) (h2 : n ≤ 128) : (n : Int) - 1 = ((UInt8.ofNat (n - 1)).toNat : Int) := by
  rw [UInt8.toNat_ofNat']
  omega

set_option maxRecDepth 100000 in
theorem pack_calls (b off N cap : Nat) (L : Nat → ByteArray) (W : World) (hN : N ≤ 300) (hc : N ≤ cap) (hcm : cap ≤ 9223372036854775807) (hL : ∀ k, k < N → (L k).size ≤ 20) (hS : StrAt b off 0 N L W) :
    Calls Try.prog 5 #[.slice (some ⟨b, off, none⟩) N cap] W fun e w' => ∃ k t, pk L N k = (N, t) ∧ t.length ≤ 21 * N ∧ e = .returned (.string ⟨t.toArray⟩) ∧ W.grownBy w' none := by
  obtain ⟨i0, hi0, hz0, hz1, hz2⟩ := info8
  have HI0 := Lib.hid hi0
  have HZ0 := Lib.hid hz0
  have HZ1 := Lib.hid hz1
  have HZ2 := Lib.hid hz2
  have HS := Lib.hid hS
  have HL := Lib.hid hL
  clear hi0 hz0 hz1 hz2 hS hL
  go_enter Try.func5, Try.ntmps5
  go_wp2
  go_loopg [0, 3] N (fun q lv tv wr => ∃ (k i m c o : Nat) (t : List UInt8), pk L N k = (i, t) ∧ i + m = N ∧ i + c = cap ∧ m = q ∧ lv = .slice (some ⟨b, o, none⟩) m c ∧ (0 < m → o = off + i) ∧ wr.ownsRow W.heap.size 5 1 tv t.length (bc t) ∧ t.length ≤ 21 * i ∧ W.grownBy wr none)
  case atStart => exact ⟨0, 0, N, cap, off, [], rfl, by omega, by omega, rfl, rfl, fun _ => rfl, World.ownsRow_nil _ _ _ _, by decide, gbr _ _⟩
  case round =>
    obtain ⟨k, i, m, c, o, t, hk, him, hic, rfl, rfl, ho, own, ht, g⟩ := hrel
    have HK := Lib.hid hk
    have HO := Lib.hid own
    have HG := Lib.hid g
    have HIM := Lib.hid him
    have HIC := Lib.hid hic
    have HT := Lib.hid ht
    have hmc : m ≤ c := by omega
    have hiN : i + m ≤ 300 := by omega
    clear hk own g him hic ht
    by_cases hlt : 0 < m
    · obtain rfl := ho hlt
      have d1 : (0 : Int) < (m : Int) := by omega
      have HSi := Lib.hid (show StrAt b (off + i) i m L wr from by
        have h := ((HS.out.grown HG.out).tail (m := i) (by have := HIM.out; omega))
        rw [Nat.zero_add, show N - i = m from by have := HIM.out; omega] at h
        exact h)
      go_wp2_with fail
      refine (alike_calls b (off + i) i m c L wr hlt (by omega) HSi.out).mono ?_
      rintro e w1 ⟨n, rfl, al, g1⟩
      have HA := Lib.hid al
      have HG1 := Lib.hid (gbt HG.out g1)
      have HO1 := Lib.hid (own_gb HO.out g1)
      have hn1 : 1 ≤ n := al.1
      have hn2 : n ≤ 128 := al.2.1
      have hn3 : n ≤ m := by have := al.2.2.1; omega
      have g1' := Lib.hid g1
      clear al g1
      by_cases hrun : 1 < n
      · have d2 : (1 : Int) < (n : Int) := by omega
        obtain ⟨hb, hhb⟩ : ∃ z, UInt8.ofNat (127 + n) = z := ⟨_, rfl⟩
        have hw := hd_run n hn1 hn2
        rw [hhb] at hw
        have HB := Lib.hid hhb
        have hwr := HG1.out.size
        obtain ⟨x, hx⟩ : ∃ z, L i = z := ⟨_, rfl⟩
        have HX := Lib.hid hx
        have hx20 : x.size ≤ 20 := by rw [← hx]; exact HL.out i (by have := HIM.out; omega)
        have c0 := HSi.out 0 hlt
        rw [Nat.add_zero, Nat.add_zero, hx] at c0
        clear hhb c0
        go_wp2_with (at_builtin; refine wpList_append_own _ rfl (.tmp 15) (.tmp 20) 30 rfl W.heap.size 5 i0 (.int .u8 0) 1 1 und8 HI0.out HZ0.out HZ1.out HZ2.out rfl (by decide) _ t.length (bc t) rfl (HO1.out.alloc _) ⟨w1.heap.size, 0, none⟩ 1 1 [.int .u8 (hb.toNat : Int)] rfl rfl one_new ?c2 ?c3 ?c4 ?c5 ?_)
        case c2 => intro u hu; simp at hu; subst hu; rfl
        case c3 => unfold maxLen; have := HT.out; omega
        case c4 => have := HT.out; omega
        case c5 => rw [al_size]; omega
        intro v' w2 hown' hgrow _
        have HO2 := Lib.hid (show w2.ownsRow W.heap.size 5 1 v' (t.length + 1) (bc (t ++ [hb])) from by rw [bc_app]; exact hown')
        have g12 : W.grownBy w2 none := gb_row (gbt HG1.out (World.grownBy_alloc _ _ none)) (HO1.out.alloc _) (Nat.le_refl _) hgrow
        have HG2 := Lib.hid g12
        have c2 := HS.out.grown g12 i (by have := HIM.out; omega)
        rw [Nat.zero_add, HX.out] at c2
        have hs2 := g12.size
        clear hown' hgrow g12
        go_wp2_with (at_builtin; (refine Lib.wpList_append_own_string _ rfl (.tmp 22) (.tmp 25) 30 9 rfl W.heap.size 5 i0 und8 undS HI0.out HZ0.out HZ1.out HZ2.out _ (t.length + 1) (bc (t ++ [hb])) rfl HO2.out x rfl ?c6 ?c7 ?c8 ?_))
        case c6 => unfold maxLen; have := HT.out; omega
        case c7 => have := HT.out; omega
        case c8 => omega
        intro v2 w3 hown2 hgrow2 _
        have HO3 := Lib.hid (show w3.ownsRow W.heap.size 5 1 v2 (t ++ (hb :: x.data.toList)).length (bc (t ++ (hb :: x.data.toList))) from by
          rw [show t ++ (hb :: x.data.toList) = (t ++ [hb]) ++ x.data.toList from by simp, bc_app, List.length_append, List.length_append, ← Lib.size_eq]
          exact hown2)
        have HG3 := Lib.hid (gb_row HG2.out HO2.out (Nat.le_refl _) hgrow2)
        have d3 : (n : Int) ≤ (m : Int) := by omega
        have d4 : (m : Int) ≤ (c : Int) := by omega
        clear hown2 hgrow2 c2 HO2 HG2
        go_wp2
        all_goals
         go_roundg (m - n)
         case measure => omega
         case rel => exact ⟨k + 1, i + n, m - n, c - n, _, t ++ (hb :: x.data.toList), by rw [← HB.out, ← HX.out]; exact pk_run HK.out (by have := HIM.out; omega) (by have h := HA.out; rw [HIM.out] at h; exact h) hrun, by have := HIM.out; omega, by have := HIC.out; omega, rfl, by first | rfl | (congr 1; omega), by omega, HO3.out, by have := HT.out; rw [List.length_append, List.length_cons, ← Lib.size_eq]; omega, HG3.out⟩
      · have d2 : ¬ (1 : Int) < (n : Int) := by omega
        have HN := Lib.hid (show n = 1 from by omega)
        clear hn1 hn2 hn3 hrun
        have HSj := Lib.hid (show StrAt b (off + i) i m L w1 from HSi.out.grown g1'.out)
        go_wp2_with fail
        refine (unlike_calls b (off + i) i m c L w1 hlt (by omega) HSj.out).mono ?_
        rintro e w2 ⟨u, rfl, ul, g2⟩
        have HU := Lib.hid ul
        have HG2 := Lib.hid (gbt HG1.out g2)
        have HO2 := Lib.hid (own_gb HO1.out g2)
        have hu1 : 1 ≤ u := ul.one (by have h := HA.out; rw [HN.out] at h; exact h)
        have hu2 : u ≤ 128 := ul.1
        have hu3 : u ≤ m := by have := ul.2.1; omega
        clear ul g2
        obtain ⟨hb, hhb⟩ : ∃ z, UInt8.ofNat (u - 1) = z := ⟨_, rfl⟩
        have hw := hd_lit u hu1 hu2
        rw [hhb] at hw
        have HB := Lib.hid hhb
        have hwr := HG2.out.size
        clear hhb
        go_wp2_with (at_builtin; refine wpList_append_own _ rfl (.tmp 32) (.tmp 36) 30 rfl W.heap.size 5 i0 (.int .u8 0) 1 1 und8 HI0.out HZ0.out HZ1.out HZ2.out rfl (by decide) _ t.length (bc t) rfl (HO2.out.alloc _) ⟨w2.heap.size, 0, none⟩ 1 1 [.int .u8 (hb.toNat : Int)] rfl rfl one_new ?c2 ?c3 ?c4 ?c5 ?_)
        case c2 => intro y hy; simp at hy; subst hy; rfl
        case c3 => unfold maxLen; have := HT.out; omega
        case c4 => have := HT.out; omega
        case c5 => rw [al_size]; omega
        intro v' w3 hown' hgrow _
        have HO3 := Lib.hid (show w3.ownsRow W.heap.size 5 1 v' (t ++ (hb :: cat L i 0)).length (bc (t ++ (hb :: cat L i 0))) from by
          show w3.ownsRow W.heap.size 5 1 v' (t ++ [hb]).length (bc (t ++ [hb]))
          rw [bc_app, List.length_append]; exact hown')
        have HG3 := Lib.hid (gb_row (gbt HG2.out (World.grownBy_alloc _ _ none)) (HO2.out.alloc _) (Nat.le_refl _) hgrow)
        have hs3 := HG3.out.size
        have d3 : (u : Int) ≤ (m : Int) := by omega
        have d4 : (m : Int) ≤ (c : Int) := by omega
        have d5 : (u : Int) ≤ (c : Int) := by omega
        clear hown' hgrow
        go_wp2_with fail
        go_loopg [3, 42] u (fun q tv jv wr => ∃ (j : Nat), j ≤ u ∧ q = u - j ∧ jv = .int .i64 j ∧ wr.ownsRow W.heap.size 5 1 tv (t ++ (hb :: cat L i j)).length (bc (t ++ (hb :: cat L i j))) ∧ (cat L i j).length ≤ 20 * j ∧ W.grownBy wr none)
        case atStart => exact ⟨0, by omega, rfl, rfl, HO3.out, by show 0 ≤ _; omega, HG3.out⟩
        case round =>
          obtain ⟨j, hj, rfl, rfl, own4, hcl, g4⟩ := hrel
          have HO4 := Lib.hid own4
          have HG4 := Lib.hid g4
          have HCL := Lib.hid hcl
          clear own4 g4 hcl
          by_cases hjn : j < u
          · have e1 : (j : Int) < (u : Int) := by omega
            obtain ⟨x, hx⟩ : ∃ z, L (i + j) = z := ⟨_, rfl⟩
            have HX := Lib.hid hx
            have hx20 : x.size ≤ 20 := by rw [← hx]; exact HL.out (i + j) (by have := HIM.out; omega)
            have c2 := HS.out.grown HG4.out (i + j) (by have := HIM.out; omega)
            rw [Nat.zero_add, hx, ← Nat.add_assoc] at c2
            have hs4 := HG4.out.size
            obtain ⟨tl, htl⟩ : ∃ l, (t ++ (hb :: cat L i j)) = l := ⟨_, rfl⟩
            have htn : tl.length = t.length + 1 + (cat L i j).length := by rw [← htl, List.length_append, List.length_cons]; omega
            have own5 := HO4.out
            rw [htl] at own5
            have HO5 := Lib.hid own5
            have HTL := Lib.hid htl
            clear own5 htl HO4 hx
            go_wp2_with (at_builtin; refine Lib.wpList_append_own_string _ rfl (.tmp 46) (.tmp 47) 30 9 rfl W.heap.size 5 i0 und8 undS HI0.out HZ0.out HZ1.out HZ2.out _ tl.length (bc tl) rfl HO5.out x rfl ?c6 ?c7 ?c8 ?_)
            case c6 => unfold maxLen; have := HT.out; have := HCL.out; omega
            case c7 => have := HT.out; have := HCL.out; omega
            case c8 => omega
            intro v2 w3 hown2 hgrow2 _
            have HO6 := Lib.hid (show w3.ownsRow W.heap.size 5 1 v2 (t ++ (hb :: cat L i (j + 1))).length (bc (t ++ (hb :: cat L i (j + 1)))) from by
              have e : t ++ (hb :: cat L i (j + 1)) = tl ++ x.data.toList := by
                rw [← HTL.out, ← HX.out]
                show t ++ (hb :: (cat L i j ++ _)) = _
                simp
              rw [e, bc_app, List.length_append, ← Lib.size_eq, htn]
              exact hown2)
            have HG6 := Lib.hid (gb_row HG4.out HO5.out (Nat.le_refl _) hgrow2)
            clear hown2 hgrow2 c2 HO5 HG4
            go_wp2
            go_roundg (u - (j + 1))
            case measure => omega
            case rel => exact ⟨j + 1, by omega, rfl, by go_num, HO6.out, by
              show List.length (cat L i j ++ _) ≤ _
              have := HCL.out
              rw [List.length_append, HX.out, ← Lib.size_eq]; omega, HG6.out⟩
          · obtain rfl : j = u := by omega
            have e1 : ¬ (j : Int) < (j : Int) := by omega
            go_wp2
            all_goals
             go_roundg (m - j)
             case measure => omega
             case rel => exact ⟨k + 1, i + j, m - j, c - j, _, t ++ (hb :: cat L i j), by rw [← HB.out]; exact pk_lit HK.out (by have := HIM.out; omega) (by have h := HA.out; rw [HIM.out, HN.out] at h; exact h) (by have h := HU.out; rw [HIM.out] at h; exact h), by have := HIM.out; omega, by have := HIC.out; omega, rfl, by first | rfl | (congr 1; omega), by omega, HO4.out, by have := HT.out; have := HCL.out; rw [List.length_append, List.length_cons]; omega, HG4.out⟩
    · obtain rfl : m = 0 := by omega
      have d1 : ¬ (0 : Int) < ((0 : Nat) : Int) := by omega
      have hcv := row_conv HO.out
      go_wp2
      go_ret
      exact ⟨k, t, by rw [HK.out, show i = N from by have := HIM.out; omega], by have := HIM.out; have := HT.out; omega, rfl, HG.out⟩

end Go.Proofs.Ytfjnhpdlellooaa.Pk
