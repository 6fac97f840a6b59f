/- Layer 18: the document's Pack. -/
import Derived.Test.YtfjnhpdlellooaaPk2
import Derived.Deep.CutRange
import Derived.Deep.CutBlock
import Derived.BigRegion
namespace Go.Proofs.Ytfjnhpdlellooaa.Pk
open Go.ChangeShapes Go.WideShapes Go.ChangeAt Go.RowKit
set_option linter.unusedVariables false

/-- One byte's text. -/
theorem conv_one (v : UInt8) (w : World) (b : Nat) (h : w.heap[b]? = some (.cells #[.int .u8 (v.toNat : Int)] 5 (0, 0))) : (convert 30 9 (.slice (some ⟨b, 0, none⟩) 1 1)).run Try.prog w = .ok (.string ⟨#[v]⟩) w := by
  have hb : Lib.Bytes w b 0 ⟨#[v]⟩ := fun i hi => by
    have hi' : i < 1 := hi
    obtain rfl : i = 0 := by omega
    rw [Nat.zero_add, cell_in h 0]
    rfl
  exact Lib.run_convert_whole (P := Try.prog) w 30 5 9 und8 (by kernel_rfl) (by kernel_rfl) b 0 ⟨#[v]⟩ hb 1
theorem gbd (w : World) (r : Option Nat) : w.grownBy w.drew r := ⟨rfl, rfl, rfl, Nat.le_refl _, fun _ _ _ => rfl⟩
theorem txt_app (a b : List UInt8) : (⟨(a ++ b).toArray⟩ : ByteArray) = (⟨a.toArray⟩ : ByteArray) ++ ⟨b.toArray⟩ := by
  apply ByteArray.ext
  simp
theorem txt_of (x : ByteArray) : (⟨x.data.toList.toArray⟩ : ByteArray) = x := by cases x; simp
theorem txt_run (t : List UInt8) (h : UInt8) (x : ByteArray) : (⟨(t ++ (h :: x.data.toList)).toArray⟩ : ByteArray) = ⟨t.toArray⟩ ++ (⟨#[h]⟩ ++ x) := by
  rw [txt_app, show h :: x.data.toList = [h] ++ x.data.toList from rfl, txt_app, txt_of]
theorem at_new {w : World} {o : Obj} : (w.alloc o).drew.heap[w.heap.size]? = some o := heap_alloc_new w o

set_option maxRecDepth 100000 in
set_option maxHeartbeats 4000000 in
theorem rpack_calls (b off N cap : Nat) (L : Nat → ByteArray) (W : World) (hN : N ≤ 300) (hL : ∀ k, k < N → (L k).size ≤ 20) (hS : StrAt b off 0 N L W) :
    Calls Try.prog 6 #[.slice (some ⟨b, off, none⟩) N cap] W fun e w' => ∃ k t, pk L N k = (N, t) ∧ t.length ≤ 21 * N ∧ e = .returned (.string ⟨t.toArray⟩) ∧ W.grownBy w' none := by
  have HS := Lib.hid hS
  have HL := Lib.hid hL
  clear hS hL
  go_enter Try.func6, Try.ntmps6
  go_wp2
  go_loopg [3, 4] N (fun q ov iv wr => ∃ (k i m : Nat) (t : List UInt8), pk L N k = (i, t) ∧ i + m = N ∧ m = q ∧ ov = .string ⟨t.toArray⟩ ∧ iv = .int .i64 i ∧ t.length ≤ 21 * i ∧ W.grownBy wr none)
  case atStart => exact ⟨0, 0, N, [], rfl, by omega, rfl, rfl, rfl, by decide, gbr _ _⟩
  case round =>
    obtain ⟨k, i, m, t, hk, him, rfl, rfl, rfl, ht, g⟩ := hrel
    have HK := Lib.hid hk
    have HG := Lib.hid g
    have HIM := Lib.hid him
    have HT := Lib.hid ht
    clear hk g him ht
    by_cases hlt : i < N
    · have d1 : (i : Int) < (N : Int) := by omega
      go_upto_block 2 with fail
      go_cut [5] from 7 to 113 (fun nv wx => ∃ n : Nat, nv = .int .i64 n ∧ AL L N i n ∧ W.grownBy wx none)
      case first =>
        go_wp2_with fail
        go_loopg [5] 129 (fun q nv wx => ∃ k : Nat, 1 ≤ k ∧ k ≤ 128 ∧ i + k ≤ N ∧ q = 130 - k ∧ nv = .int .i64 k ∧ (∀ j, j < k → L (i + j) = L i) ∧ W.grownBy wx none)
        case atStart => exact ⟨1, Nat.le_refl _, by omega, by omega, rfl, rfl, fun j hj => (by obtain rfl : j = 0 := (by omega); rfl), HG.out⟩
        case round =>
          obtain ⟨n, hn1, hn2, hnN, rfl, rfl, hall, g⟩ := hrel
          have HALL := Lib.hid hall
          have HG2 := Lib.hid g
          have c0 := g.cell (HS.out i hlt) (by simp)
          rw [Nat.zero_add] at c0
          clear hall
          obtain ⟨p, hp⟩ : ∃ p, i + n = p := ⟨_, rfl⟩
          have hw : IntKind.i64.wrap ((i : Int) + (n : Int)) = (p : Int) := by rw [IntWalk.i64_in _ (by omega)]; omega
          have HP := Lib.hid hp
          by_cases hpN : p < N
          · have e1 : (p : Int) < (N : Int) := by omega
            by_cases h128 : n < 128
            · have e2 : (n : Int) < 128 := by omega
              have c1 := g.cell (HS.out p hpN) (by simp)
              rw [Nat.zero_add] at c1
              obtain ⟨z, hz⟩ : ∃ z, L p = z := ⟨_, rfl⟩
              obtain ⟨y, hy⟩ : ∃ z, L i = z := ⟨_, rfl⟩
              rw [hz] at c1
              rw [hy] at c0
              have HZ := Lib.hid hz
              have HY := Lib.hid hy
              clear hz hy g hp
              by_cases he : z = y
              · have e3 := str_eq he
                have HE := Lib.hid he
                clear he
                go_wp2_with fail
                go_quiet (fail)
                have HG1 := Lib.hid (gbt HG2.out (gbdn wr nq none))
                go_wp2
                go_roundg (130 - (n + 1))
                case measure => omega
                case rel => exact ⟨n + 1, by omega, by omega, by have := HP.out; omega, rfl, by go_num, fun j hj => (by
                  by_cases hjk : j < n
                  · exact HALL.out j hjk
                  · obtain rfl : j = n := by omega
                    rw [HP.out, HZ.out, HY.out, HE.out]), HG1.out⟩
              · have e3 := str_ne he
                have HE := Lib.hid he
                clear he
                go_wp2_with fail
                go_quiet (fail)
                have HG1 := Lib.hid (gbt HG2.out (gbdn wr nq none))
                go_wp2
                go_meet
                case rel => exact ⟨n, rfl, ⟨hn1, hn2, hnN, HALL.out, .inr (.inr (by rw [HP.out, HZ.out, HY.out]; exact HE.out))⟩, HG1.out⟩
            · have e2 : decide ((n : Int) < 128) = false := decide_eq_false (by omega)
              clear g hp c0
              go_wp2_with fail
              go_quiet (fail)
              have HG1 := Lib.hid (gbt HG2.out (gbdn wr nq none))
              go_wp2
              go_meet
              case rel => exact ⟨n, rfl, ⟨hn1, hn2, hnN, HALL.out, .inl (by omega)⟩, HG1.out⟩
          · have e1 : ¬ (p : Int) < (N : Int) := by omega
            clear g hp c0
            go_wp2_with fail
            go_quiet (fail)
            have HG1 := Lib.hid (gbt HG2.out (gbdn wr nq none))
            go_wp2
            go_meet
            case rel => exact ⟨n, rfl, ⟨hn1, hn2, hnN, HALL.out, .inr (.inl (by have := HP.out; omega))⟩, HG1.out⟩
      case rest =>
        obtain ⟨n, rfl, al, g⟩ := hcut
        have HA := Lib.hid al
        have HG1 := Lib.hid g
        have hn1 : 1 ≤ n := al.1
        have hn2 : n ≤ 128 := al.2.1
        have hn3 : i + n ≤ N := al.2.2.1
        obtain ⟨x, hx⟩ : ∃ z, L i = z := ⟨_, rfl⟩
        have HX := Lib.hid hx
        have hx20 : x.size ≤ 20 := by rw [← hx]; exact HL.out i hlt
        have c0 := g.cell (HS.out i hlt) (by simp)
        rw [Nat.zero_add, hx] at c0
        clear al g hx HG
        by_cases hrun : 1 < n
        · have d2 : (1 : Int) < (n : Int) := by omega
          obtain ⟨hb, hhb⟩ : ∃ z, UInt8.ofNat (127 + n) = z := ⟨_, rfl⟩
          have hw : (127 : Int) + (n : Int) = (hb.toNat : Int) := by rw [← hhb, UInt8.toNat_ofNat']; omega
          have HB := Lib.hid hhb
          obtain ⟨hs, hhs⟩ : ∃ z, (⟨#[hb]⟩ : ByteArray) = z := ⟨_, rfl⟩
          have hcv := conv_one hb (wc.alloc (.cells #[.int .u8 (hb.toNat : Int)] 5)).drew wc.heap.size at_new
          have hs1 : hs.size = 1 := by rw [← hhs]; rfl
          obtain ⟨T, hT⟩ : ∃ z, (⟨t.toArray⟩ : ByteArray) = z := ⟨_, rfl⟩
          have hTs : T.size = t.length := by rw [← hT]; simp [ByteArray.size]
          rw [hhs] at hcv
          rw [hT]
          have HHS := Lib.hid hhs
          have HTT := Lib.hid hT
          have z1 : ¬ 9223372036854775807 < hs.size + x.size := by omega
          have z2 : ¬ 9223372036854775807 < T.size + (hs.size + x.size) := by have := HT.out; omega
          have c0' : ((wc.alloc (.cells #[.int .u8 (hb.toNat : Int)] 5)).drew).cell? ⟨b, off + i, none⟩ = some (.string x) := (World.grownBy_alloc wc (.cells #[.int .u8 (hb.toNat : Int)] 5) none).cell c0 (by simp)
          clear hhb hhs hT
          go_wp2_with fail
          go_region
          have HG3 := Lib.hid (gbt HG1.out (gbt (World.grownBy_alloc wc (.cells #[.int .u8 (hb.toNat : Int)] 5) none) (gbd _ none)))
          generalize (wc.alloc (.cells #[.int .u8 (hb.toNat : Int)] 5)).drew = w3 at HG3 ⊢
          obtain ⟨p, hp⟩ : ∃ p, i + n = p := ⟨_, rfl⟩
          have hw2 : IntKind.i64.wrap ((i : Int) + (n : Int)) = (p : Int) := by rw [IntWalk.i64_in _ (by omega)]; omega
          have HP := Lib.hid hp
          have HST := Lib.hid (show (⟨(t ++ (hb :: x.data.toList)).toArray⟩ : ByteArray) = T ++ (hs ++ x) from by
            rw [← HTT.out, ← HHS.out]
            exact txt_run t hb x)
          clear hp hcv c0 c0' hw
          go_wp2
          go_roundg (m - n)
          case measure => have := HIM.out; omega
          case rel => exact ⟨k + 1, p, m - n, t ++ (hb :: x.data.toList), by rw [← HB.out, ← HX.out, ← HP.out]; exact pk_run HK.out hlt HA.out hrun, by have := HIM.out; have := HP.out; omega, rfl, by rw [HST.out], rfl, by have := HT.out; have := HP.out; rw [List.length_append, List.length_cons, ← Lib.size_eq]; omega, HG3.out⟩
        · have d2 : ¬ (1 : Int) < (n : Int) := by omega
          have HN := Lib.hid (show n = 1 from by omega)
          go_upto_block 4 with fail
          go_cut [5] from 7 to 113 (fun nv wx => ∃ u : Nat, nv = .int .i64 u ∧ UL L N i u ∧ W.grownBy wx none)
          case first =>
            go_wp2_with fail
            go_loopg [5] 129 (fun q nv wx => ∃ k : Nat, 1 ≤ k ∧ k ≤ 128 ∧ i + k ≤ N ∧ q = 130 - k ∧ nv = .int .i64 k ∧ (∀ j, j < k → ¬ (i + j + 1 < N ∧ L (i + j) = L (i + j + 1))) ∧ W.grownBy wx none)
            case atStart => exact ⟨1, Nat.le_refl _, by omega, by omega, rfl, by rw [HN.out], fun j hj => (by
              obtain rfl : j = 0 := (by omega)
              rintro ⟨h1, h2⟩
              rcases HA.out.2.2.2.2 with h | h | h
              · have := HN.out; omega
              · have := HN.out; omega
              · rw [HN.out] at h; exact h h2.symm), HG1.out⟩
            case round =>
              obtain ⟨u, hu1, hu2, huN, rfl, rfl, hall, g⟩ := hrel
              have HALL := Lib.hid hall
              have HG2 := Lib.hid g
              clear hall c0 hn1 hn2 hn3 hrun d2
              obtain ⟨p, hp⟩ : ∃ p, i + u = p := ⟨_, rfl⟩
              have hw : IntKind.i64.wrap ((i : Int) + (u : Int)) = (p : Int) := by rw [IntWalk.i64_in _ (by omega)]; omega
              have HP := Lib.hid hp
              by_cases hpN : p < N
              · have e1 : (p : Int) < (N : Int) := by omega
                obtain ⟨p1, hp1⟩ : ∃ p1, p + 1 = p1 := ⟨_, rfl⟩
                have hw1 : IntKind.i64.wrap ((p : Int) + 1) = (p1 : Int) := by rw [IntWalk.i64_in _ (by omega)]; omega
                have HP1 := Lib.hid hp1
                by_cases h128 : u < 128
                · have e2 : decide ((u : Int) < 128) = true := decide_eq_true (by omega)
                  have e2' : (u : Int) < 128 := by omega
                  by_cases hp1N : p1 < N
                  · have e4 : (p1 : Int) < (N : Int) := by omega
                    have c1 := g.cell (HS.out p hpN) (by simp)
                    have c2 := g.cell (HS.out p1 hp1N) (by simp)
                    rw [Nat.zero_add] at c1 c2
                    obtain ⟨z, hz⟩ : ∃ z, L p = z := ⟨_, rfl⟩
                    obtain ⟨y, hy⟩ : ∃ z, L p1 = z := ⟨_, rfl⟩
                    rw [hz] at c1
                    rw [hy] at c2
                    have HZ := Lib.hid hz
                    have HY := Lib.hid hy
                    clear hz hy g hp hp1
                    by_cases he : z = y
                    · have e3 := str_eq he
                      have HE := Lib.hid he
                      clear he
                      go_wp2_with fail
                      go_quiet (fail)
                      have HG3 := Lib.hid (gbt HG2.out (gbdn wr nq none))
                      go_wp2
                      go_meet
                      case rel => exact ⟨u, rfl, ⟨hu2, huN, HALL.out, .inr (.inr ⟨by have := HP.out; have := HP1.out; omega, by rw [HP.out, HP1.out, HZ.out, HY.out, HE.out]⟩)⟩, HG3.out⟩
                    · have e3 := str_ne he
                      have HE := Lib.hid he
                      clear he
                      go_wp2_with fail
                      go_quiet (fail)
                      have HG3 := Lib.hid (gbt HG2.out (gbdn wr nq none))
                      go_wp2
                      go_roundg (130 - (u + 1))
                      case measure => omega
                      case rel => exact ⟨u + 1, by omega, by omega, by have := HP.out; omega, rfl, by go_num, fun j hj => (by
                        by_cases hjk : j < u
                        · exact HALL.out j hjk
                        · obtain rfl : j = u := by omega
                          rintro ⟨_, h⟩
                          rw [HP.out, HP1.out, HZ.out, HY.out] at h
                          exact HE.out h), HG3.out⟩
                  · have e4 : ¬ (p1 : Int) < (N : Int) := by omega
                    clear g hp hp1
                    go_wp2_with fail
                    go_quiet (fail)
                    have HG3 := Lib.hid (gbt HG2.out (gbdn wr nq none))
                    go_wp2
                    go_roundg (130 - (u + 1))
                    case measure => omega
                    case rel => exact ⟨u + 1, by omega, by omega, by have := HP.out; omega, rfl, by go_num, fun j hj => (by
                      by_cases hjk : j < u
                      · exact HALL.out j hjk
                      · obtain rfl : j = u := by omega
                        rintro ⟨h, _⟩
                        have := HP.out
                        have := HP1.out
                        omega), HG3.out⟩
                · have e2 : decide ((u : Int) < 128) = false := decide_eq_false (by omega)
                  clear g hp hp1
                  go_wp2_with fail
                  go_quiet (fail)
                  have HG3 := Lib.hid (gbt HG2.out (gbdn wr nq none))
                  go_wp2
                  go_meet
                  case rel => exact ⟨u, rfl, ⟨hu2, huN, HALL.out, .inl (by omega)⟩, HG3.out⟩
              · have e1 : ¬ (p : Int) < (N : Int) := by omega
                clear g hp
                go_wp2_with fail
                go_quiet (fail)
                have HG3 := Lib.hid (gbt HG2.out (gbdn wr nq none))
                go_wp2
                go_meet
                case rel => exact ⟨u, rfl, ⟨hu2, huN, HALL.out, .inr (.inl (by have := HP.out; omega))⟩, HG3.out⟩
          case rest =>
            obtain ⟨u, rfl, ul, g⟩ := hcut
            have HU := Lib.hid ul
            have HG2 := Lib.hid g
            have hu1 : 1 ≤ u := ul.one (by have h := HA.out; rw [HN.out] at h; exact h)
            have hu2 : u ≤ 128 := ul.1
            have hu3 : i + u ≤ N := ul.2.1
            clear ul g c0 hn1 hn2 hn3 hrun d2
            obtain ⟨hb, hhb⟩ : ∃ z, UInt8.ofNat (u - 1) = z := ⟨_, rfl⟩
            have hw := hd_lit u hu1 hu2
            rw [hhb] at hw
            have HB := Lib.hid hhb
            obtain ⟨hs, hhs⟩ : ∃ z, (⟨#[hb]⟩ : ByteArray) = z := ⟨_, rfl⟩
            have hs1 : hs.size = 1 := by rw [← hhs]; rfl
            obtain ⟨T, hT⟩ : ∃ z, (⟨t.toArray⟩ : ByteArray) = z := ⟨_, rfl⟩
            have hTs : T.size = t.length := by rw [← hT]; simp [ByteArray.size]
            rw [hT]
            have hcv := conv_one hb (wc.alloc (.cells #[.int .u8 (hb.toNat : Int)] 5)) wc.heap.size (heap_alloc_new wc _)
            rw [hhs] at hcv
            have HHS := Lib.hid hhs
            have HTT := Lib.hid hT
            have z1 : ¬ 9223372036854775807 < T.size + hs.size := by have := HT.out; omega
            clear hhb hhs hT
            go_wp2_with fail
            have HG3 := Lib.hid (gbt HG2.out (World.grownBy_alloc wc (.cells #[.int .u8 (hb.toNat : Int)] 5) none))
            generalize wc.alloc (.cells #[.int .u8 (hb.toNat : Int)] 5) = w3 at HG3 ⊢
            have HST := Lib.hid (show T ++ hs = ⟨(t ++ (hb :: cat L i 0)).toArray⟩ from by
              rw [← HTT.out, ← HHS.out]
              show _ = (⟨(t ++ [hb]).toArray⟩ : ByteArray)
              rw [txt_app])
            go_loopg [3, 6] u (fun q ov jv wx => ∃ j : Nat, j ≤ u ∧ q = u - j ∧ jv = .int .i64 j ∧ ov = .string ⟨(t ++ (hb :: cat L i j)).toArray⟩ ∧ (cat L i j).length ≤ 20 * j ∧ W.grownBy wx none)
            case atStart => exact ⟨0, by omega, rfl, rfl, by rw [HST.out], by show 0 ≤ _; omega, HG3.out⟩
            case round =>
              obtain ⟨j, hj, rfl, rfl, rfl, hcl, g4⟩ := hrel
              have HCL := Lib.hid hcl
              have HG4 := Lib.hid g4
              clear hcl hw hcv
              by_cases hju : j < u
              · have e1 : (j : Int) < (u : Int) := by omega
                obtain ⟨p, hp⟩ : ∃ p, i + j = p := ⟨_, rfl⟩
                have hw : IntKind.i64.wrap ((i : Int) + (j : Int)) = (p : Int) := by rw [IntWalk.i64_in _ (by omega)]; omega
                have HP := Lib.hid hp
                have hpN : (p : Int) < (N : Int) := by omega
                have c1 := g4.cell (HS.out p (by omega)) (by simp)
                rw [Nat.zero_add] at c1
                obtain ⟨x, hx⟩ : ∃ z, L p = z := ⟨_, rfl⟩
                have hx20 : x.size ≤ 20 := by rw [← hx]; exact HL.out p (by omega)
                rw [hx] at c1
                have HX := Lib.hid hx
                obtain ⟨A, hA⟩ : ∃ z, (⟨(t ++ (hb :: cat L i j)).toArray⟩ : ByteArray) = z := ⟨_, rfl⟩
                have hAs : A.size = t.length + 1 + (cat L i j).length := by rw [← hA]; simp [ByteArray.size]; omega
                rw [hA]
                have HAA := Lib.hid hA
                have z3 : ¬ 9223372036854775807 < A.size + x.size := by have := HT.out; have := HCL.out; omega
                clear g4 hp hx hA hAs z1
                go_wp2
                have HG5 := Lib.hid HG4.out
                go_roundg (u - (j + 1))
                case measure => omega
                case rel => exact ⟨j + 1, by omega, rfl, by go_num, by
                  rw [← HAA.out]
                  show _ = Value.string ⟨(t ++ (hb :: (cat L i j ++ (L (i + j)).data.toList))).toArray⟩
                  rw [HP.out, HX.out, show t ++ (hb :: (cat L i j ++ x.data.toList)) = (t ++ (hb :: cat L i j)) ++ x.data.toList from by simp, txt_app (t ++ (hb :: cat L i j)), txt_of], by
                  show List.length (cat L i j ++ (L (i + j)).data.toList) ≤ _
                  have := HCL.out
                  rw [List.length_append, HP.out, HX.out, ← Lib.size_eq]; omega, HG4.out⟩
              · obtain rfl : j = u := by omega
                have e1 : ¬ (j : Int) < (j : Int) := by omega
                obtain ⟨p, hp⟩ : ∃ p, i + j = p := ⟨_, rfl⟩
                have hw : IntKind.i64.wrap ((i : Int) + (j : Int)) = (p : Int) := by rw [IntWalk.i64_in _ (by omega)]; omega
                have HP := Lib.hid hp
                clear hp g4
                go_wp2
                go_roundg (m - j)
                case measure => have := HIM.out; omega
                case rel => exact ⟨k + 1, p, m - j, t ++ (hb :: cat L i j), by rw [← HB.out, ← HP.out]; exact pk_lit HK.out hlt (by have h := HA.out; rw [HN.out] at h; exact h) HU.out, by have := HIM.out; have := HP.out; omega, rfl, rfl, rfl, by have := HT.out; have := HP.out; have := HCL.out; rw [List.length_append, List.length_cons]; omega, HG4.out⟩
    · have d1 : ¬ (i : Int) < (N : Int) := by omega
      go_wp2
      go_ret
      exact ⟨k, t, by rw [HK.out, show i = N from by have := HIM.out; omega], by have := HIM.out; have := HT.out; omega, rfl, HG.out⟩

end Go.Proofs.Ytfjnhpdlellooaa.Pk
