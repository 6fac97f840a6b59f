/- Layer 6: the document's bits of a text, all. -/
import Derived.Test.YthgpjdnppknghaaApp
namespace Go.Proofs.Ythgpjdnppknghaa.Bi
open Go.ChangeShapes Go.WideShapes Go.ChangeAt Go.RowKit
open Go.Proofs.Ythgpjdnppknghaa.Le Go.Proofs.Ythgpjdnppknghaa.Sr
set_option linter.unusedVariables false

theorem wpList_append_where {P : Program} {w : World} {ops : Array Oper} {rest : List Oper} {o : Oper} {a : Act} {Q : Exit → Act → World → Prop} (hgd : o.guard = none) (s x : Operand) (t : TypeId)
    (ho : o.op = .call { callee := .builtin .append, args := #[s, x], argTypes := #[t, t] })
    (base : Nat) (e : TypeId) (i : TypeInfo) (z : Value) (size bytes : Nat) (ht : P.underlying t = some (.slice e)) (hi : P.info? e = some i) (hz : i.zero = some z)
    (hsize : i.size = size) (hby : i.bytes = bytes) (hzs : z.cells.size = size) (hsz : 0 < size)
    (v : Value) (n : Nat) (xs : List Value) (hs : a.eval s = v) (hown : w.ownsRow base e size v n xs)
    (ad : Addr) (m c : Nat) (news : List Value) (hx : a.eval x = .slice (some ad) m c) (hl : news.length = m * size) (hnews : ∀ j u, news[j]? = some u → w.cell? (ad.add j) = some u) (h1 : ∀ u ∈ news, u.oneCell' = true)
    (h63 : n + m ≤ maxLen) (hbytes : (n + m) * bytes ≤ 140737488355328) (hbase : base ≤ w.heap.size)
    (h : ∀ v' w', w'.ownsRow base e size v' (n + m) (xs ++ news) → w.grownBy w' v.ownBlock → (∀ k, v'.ownBlock = some k → v.ownBlock = some k ∨ w.heap.size ≤ k) → wpList P ops Q rest (a.put o.dst v') w') : wpList P ops Q (o :: rest) a w := by
  refine wpList_plain hgd fun K hK => ?_
  obtain ⟨v', w', hr, h2, h3, h4⟩ := run_append_where (P := P) w base t o.type e i z size bytes ht hi hz hsize hby hzs hsz v n xs hown ad m c news hl hnews h1 h63 hbytes hbase
  unfold Oper.wp execOp
  simp only [ho, resolve, invoke, builtin, Sem.run_bind, Sem.run_pure, Result.andThen_ok, List.map_toArray, List.map_cons, List.map_nil, hs, hx, hr]
  exact hK _ _ (h v' w' h2 h3 h4)

/-- Two rows of the call's own, side by side. -/
structure Two (W : World) (base : Nat) (w : World) (a : Value) (n : Nat) (xs : List Value) (b : Value) (m : Nat) (ys : List Value) : Prop where
  ra : w.ownsRow base 3 1 a n xs
  rb : w.ownsRow base 3 1 b m ys
  ne : ∀ g, a.ownBlock = some g → b.ownBlock ≠ some g
  own : W.grownBy w none
  wb : W.heap.size ≤ base
  bs : base ≤ w.heap.size
theorem Two.swap {W : World} {base : Nat} {w : World} {a : Value} {n : Nat} {xs : List Value} {b : Value} {m : Nat} {ys : List Value} (h : Two W base w a n xs b m ys) : Two W base w b m ys a n xs :=
  ⟨h.rb, h.ra, fun g hg ha => h.ne g ha hg, h.own, h.wb, h.bs⟩
theorem Two.app {W : World} {base : Nat} {w w2 : World} {a a' : Value} {n n' : Nat} {xs xs' : List Value} {b : Value} {m : Nat} {ys : List Value} {o : Obj} (h : Two W base w a n xs b m ys)
    (hown : w2.ownsRow base 3 1 a' n' xs') (hg : (w.alloc o).grownBy w2 a.ownBlock) (hw : ∀ k, a'.ownBlock = some k → a.ownBlock = some k ∨ w.heap.size + 1 ≤ k) : Two W base w2 a' n' xs' b m ys := by
  have G1 : W.grownBy (w.alloc o) none := gb_trans h.own (World.grownBy_alloc _ _ _)
  refine ⟨hown, (h.rb.alloc o).kept hg ?_, fun g hg' hb => ?_, ?_, h.wb, ?_⟩
  · cases hb : b.ownBlock with
    | none => exact .inl rfl
    | some g => exact .inr (fun e => h.ne g e.symm hb)
  · rcases hw g hg' with h1 | h1
    · exact h.ne g h1 hb
    · have := (h.rb.lt g hb).2; omega
  · cases ha : a.ownBlock with
    | none => rw [ha] at hg; exact gb_trans G1 hg
    | some g => rw [ha] at hg; exact gb_own G1 (by have := (h.ra.lt g ha).1; have := h.wb; omega) hg
  · have := hg.size; rw [size_alloc] at this; have := h.bs; omega

def lb (c k : Nat) : List Value := (List.range k).map (fun j => Value.int .i64 ((c / 2 ^ j % 2 : Nat) : Int))
theorem lb_succ (c k : Nat) : lb c (k + 1) = lb c k ++ [Value.int .i64 ((c / 2 ^ k % 2 : Nat) : Int)] := by simp [lb, List.range_succ]
theorem bit_byte (low : Bool) (s : ByteArray) (i k : Nat) (hi : i < s.size) (hk : k < 8) : bitAt low s (8 * i + k) = if low then s[i].toNat / 2 ^ k % 2 else s[i].toNat / 2 ^ (7 - k) % 2 := by
  unfold bitAt
  rw [show (8 * i + k) / 8 = i from by omega, show (8 * i + k) % 8 = k from by omega]
  have h : s.data.toList[i]? = some s[i] := by
    have : i < s.data.toList.length := by simpa using hi
    rw [List.getElem?_eq_getElem this]
    simp
    rfl
  rw [h]
theorem one_news {w : World} {x : Value} : ∀ j u, [x][j]? = some u → (w.alloc (.cells #[x] 3)).cell? ((⟨w.heap.size, 0, none⟩ : Addr).add j) = some u := by
  intro i u hu
  have hi0 : i = 0 := by
    rcases Nat.eq_zero_or_pos i with h | h
    · exact h
    · rw [List.getElem?_eq_none (by simp; omega)] at hu
      cases hu
  subst hi0
  have hu' : u = x := by simpa using hu.symm
  subst hu'
  exact blk_cell (blk_at (w := w) (o := .cells #[u] 3)) 0
theorem one_int {x : Int} : ∀ u ∈ [Value.int .i64 x], u.oneCell' = true := by intro u hu; simp at hu; subst hu; rfl

theorem eight_at {W : World} {base : Nat} {w : World} {a : Value} {n c : Nat} {xs : List Value} {l : Value} (h : Two W base w a n xs l 8 (lb c 8)) :
    ∃ g cap, l = .slice (some ⟨g, 0, none⟩) 8 cap ∧ ∀ j, j < 8 → w.cell? ⟨g, j, none⟩ = some (.int .i64 ((c / 2 ^ j % 2 : Nat) : Int)) := by
  have hc := fun g hg => World.ownsRow.cells h.rb (g := g) hg
  obtain ⟨h1, ⟨h2, h3⟩ | ⟨g, cap, cur, e1, hg, hb, h3⟩⟩ := h.rb
  · cases h3
  · refine ⟨g, cap, e1, fun j hj => ?_⟩
    have h := hc g (by rw [e1]; rfl) j (.int .i64 ((c / 2 ^ j % 2 : Nat) : Int)) (by simp [lb, hj])
    rw [add_plain] at h
    simpa using h

end Go.Proofs.Ythgpjdnppknghaa.Bi
