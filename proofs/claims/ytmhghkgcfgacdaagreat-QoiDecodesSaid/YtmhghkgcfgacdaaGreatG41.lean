/- Texts of one kind, one behind the other: Mk1. -/
import Derived.Deep.RegionHeld
import Derived.Deep.RegionHeld3
/- Regions that draw their order: a condition on the world that is asked only till a marked operation comes up (loads ahead of stores into the very cells). -/
namespace Go.Proofs.YtmhghkgcfgacdaaGreat.Mk
open Go
set_option linter.unusedVariables false

section
variable {P : Program} {ops : Array Oper} {Q : Exit → Act → World → Prop} {md : Region.Mode} {S : World → Prop} {m : Nat}

/-- Whatever order is picked; S holds behind every operation till m comes up. -/
def Upto (P : Program) (md : Region.Mode) (ops : Array Oper) (Q : Exit → Act → World → Prop) (S : World → Prop) (m : Nat) : Nat → Array Bool → Act → World → Prop
  | 0, l, a, w => Region.ready md ops l = [] ∧ Q .normal a w
  | k + 1, l, a, w => (Region.ready md ops l = [] → Q .normal a w) ∧
      ∀ i ∈ Region.ready md ops l, wpOp P ops Q i (fun a' w' => ((l.setIfInBounds i true).getD m false = false → S w') ∧ Upto P md ops Q S m k (l.setIfInBounds i true) a' w') a w
theorem Upto.any : ∀ (k : Nat) (l : Array Bool) (a : Act) (w : World), Upto P md ops Q S m k l a w → wpAny P md ops Q k l a w
  | 0, _, _, _, h => h
  | k + 1, _, _, _, h => ⟨h.1, fun i hi => wpOp_mono (fun a' w' q => Upto.any k _ a' w' q.2) (h.2 i hi)⟩

theorem Upto.first {i : Nat} {oi : Oper} {v : Value} (hi : ops[i]? = some oi) (hsel : ∀ (j : Nat) (o : Oper) cs b, ops[j]? = some o → o.op ≠ .select cs b)
    (hQ : ∀ c a w, Q (.panic c) (a.put oi.dst v) w → Q (.panic c) a w) (him : i ≠ m) (hm : ∀ om, ops[m]? = some om → ∃ e ∈ om.after, Region.binds md e = true ∧ e.on = i) :
    ∀ (k : Nat) (l : Array Bool) (a : Act) (w : World),
      (∀ j oj, ops[j]? = some oj → j ≠ i → l.getD j true = false → (∀ e ∈ oj.after, Region.binds md e = true → e.on ≠ i) → oi.apart ops oj = true) →
      i ∈ Region.ready md ops l → YieldsIf P ops S oi v a → l.getD m false = false → S w →
      Upto P md ops Q S m k (l.setIfInBounds i true) (a.put oi.dst v) w → Upto P md ops Q S m (k + 1) l a w := by
  intro k
  induction k with
  | zero =>
    intro l a w _ hr hy _ hS H
    refine ⟨fun h => absurd hr (by rw [h]; exact List.not_mem_nil), fun j hj => ?_⟩
    by_cases e : j = i
    · subst e
      exact hy.wpOp hi hS ⟨fun _ => hS, H⟩
    · exact absurd (ready_mono hj e) (by rw [H.1]; exact List.not_mem_nil)
  | succ k ih =>
    intro l a w hf hr hy hl hS H
    refine ⟨fun h => absurd hr (by rw [h]; exact List.not_mem_nil), fun j hj => ?_⟩
    by_cases e : j = i
    · subst e
      exact hy.wpOp hi hS ⟨fun _ => hS, H⟩
    · obtain ⟨hju, oj, hoj, hall⟩ := mem_ready.1 hj
      have hno : ∀ d ∈ oj.after, Region.binds md d = true → d.on ≠ i := fun d hd hb he => by
        have h1 := hall d hd hb
        have h0 := (mem_ready.1 hr).1
        rw [he] at h1
        rcases Nat.lt_or_ge i l.size with h2 | h2
        · simp [h2] at h0 h1
          rw [h0] at h1
          cases h1
        · simp [Array.getElem?_eq_none h2] at h1
      have hjm : j ≠ m := fun h => by
        subst h
        obtain ⟨d, hd, hb, he⟩ := hm oj hoj
        exact hno d hd hb he
      have h2 := wpOp_putIf hoj (hf j oj hoj e hju hno) (fun cs b => hsel i oi cs b hi) (fun cs b => hsel j oj cs b hoj) hQ hy (H.2 j (ready_mono hj e))
      have hl2 : (l.setIfInBounds j true).getD m false = false := by rw [getD_set_ne false hjm]; exact hl
      have hl3 : ((l.setIfInBounds i true).setIfInBounds j true).getD m false = false := by rw [getD_set_ne false hjm, getD_set_ne false him]; exact hl
      refine wpOp_mono (fun a' w' q => ⟨fun _ => q.2.1 hl3, ih (l.setIfInBounds j true) a' w' (fun q' oq hq hqi hun hnq => ?_) (ready_mono hr (Ne.symm e)) q.1 hl2 (q.2.1 hl3) ?_⟩) h2
      · refine hf q' oq hq hqi ?_ hnq
        by_cases hjq : j = q'
        · subst hjq; exact hju
        · rw [getD_set_ne true hjq] at hun; exact hun
      · rw [Array.setIfInBounds_comm _ _ e]
        exact q.2.2
/-- A waits-for test that the kernel reckons. -/
def waits (md : Region.Mode) (ops : Array Oper) (m i : Nat) : Bool := match ops[m]? with
  | none => true
  | some om => om.after.any fun e => Region.binds md e && e.on == i
theorem waits_spec {i : Nat} (h : waits md ops m i = true) : ∀ om, ops[m]? = some om → ∃ e ∈ om.after, Region.binds md e = true ∧ e.on = i := fun om ho => by
  unfold waits at h
  rw [ho] at h
  simp only [Array.any_eq_true, Bool.and_eq_true, beq_iff_eq] at h
  obtain ⟨k, hk, h1, h2⟩ := h
  exact ⟨_, Array.getElem_mem hk, h1, h2⟩
theorem Upto.take {i : Nat} {oi : Oper} {v : Value} {k : Nat} {l : Array Bool} {a : Act} {w : World} (hi : ops[i]? = some oi)
    (hs : Region.noSelect ops = true) (hf : Region.free md ops l i = true) (hr : (Region.ready md ops l).contains i = true) (hm : (i != m && waits md ops m i && !(l.getD m false)) = true)
    (hQ : ∀ c a w, Q (.panic c) (a.put oi.dst v) w → Q (.panic c) a w) (hy : YieldsIf P ops S oi v a) (hS : S w)
    (h : Upto P md ops Q S m k (l.setIfInBounds i true) (a.put oi.dst v) w) : Upto P md ops Q S m (k + 1) l a w := by
  simp only [Bool.and_eq_true, bne_iff_ne, Bool.not_eq_true'] at hm
  exact Upto.first hi (Region.noSelect_spec hs) hQ hm.1.1 (waits_spec hm.1.2) k l a w (Region.free_spec hi hf) (by simpa using hr) hy hm.2 hS h
/-- What yields in whatever world may be taken first, too, be it waited for or not. -/
theorem Upto.firstP {i : Nat} {oi : Oper} {v : Value} (hi : ops[i]? = some oi) (hsel : ∀ (j : Nat) (o : Oper) cs b, ops[j]? = some o → o.op ≠ .select cs b)
    (hQ : ∀ c a w, Q (.panic c) (a.put oi.dst v) w → Q (.panic c) a w) (him : i ≠ m) :
    ∀ (k : Nat) (l : Array Bool) (a : Act) (w : World),
      (∀ j oj, ops[j]? = some oj → j ≠ i → l.getD j true = false → (∀ e ∈ oj.after, Region.binds md e = true → e.on ≠ i) → oi.apart ops oj = true) →
      i ∈ Region.ready md ops l → YieldsIf P ops (fun _ => True) oi v a → (l.getD m false = false → S w) →
      Upto P md ops Q S m k (l.setIfInBounds i true) (a.put oi.dst v) w → Upto P md ops Q S m (k + 1) l a w := by
  intro k
  induction k with
  | zero =>
    intro l a w _ hr hy hS H
    refine ⟨fun h => absurd hr (by rw [h]; exact List.not_mem_nil), fun j hj => ?_⟩
    by_cases e : j = i
    · subst e
      exact hy.wpOp hi trivial ⟨fun h => hS (by rw [getD_set_ne false him] at h; exact h), H⟩
    · exact absurd (ready_mono hj e) (by rw [H.1]; exact List.not_mem_nil)
  | succ k ih =>
    intro l a w hf hr hy hS H
    refine ⟨fun h => absurd hr (by rw [h]; exact List.not_mem_nil), fun j hj => ?_⟩
    by_cases e : j = i
    · subst e
      exact hy.wpOp hi trivial ⟨fun h => hS (by rw [getD_set_ne false him] at h; exact h), H⟩
    · obtain ⟨hju, oj, hoj, hall⟩ := mem_ready.1 hj
      have hno : ∀ d ∈ oj.after, Region.binds md d = true → d.on ≠ i := fun d hd hb he => by
        have h1 := hall d hd hb
        have h0 := (mem_ready.1 hr).1
        rw [he] at h1
        rcases Nat.lt_or_ge i l.size with h2 | h2
        · simp [h2] at h0 h1
          rw [h0] at h1
          cases h1
        · simp [Array.getElem?_eq_none h2] at h1
      have h2 := wpOp_putIf hoj (hf j oj hoj e hju hno) (fun cs b => hsel i oi cs b hi) (fun cs b => hsel j oj cs b hoj) hQ hy (H.2 j (ready_mono hj e))
      have hc : (l.setIfInBounds j true).getD m false = false → ((l.setIfInBounds i true).setIfInBounds j true).getD m false = false := fun h => by
        rw [← Array.setIfInBounds_comm _ _ e, getD_set_ne false him]
        exact h
      refine wpOp_mono (fun a' w' q => ⟨fun h => q.2.1 (hc h), ih (l.setIfInBounds j true) a' w' (fun q' oq hq hqi hun hnq => ?_) (ready_mono hr (Ne.symm e)) q.1 (fun h => q.2.1 (hc h)) ?_⟩) h2
      · refine hf q' oq hq hqi ?_ hnq
        by_cases hjq : j = q'
        · subst hjq; exact hju
        · rw [getD_set_ne true hjq] at hun; exact hun
      · rw [Array.setIfInBounds_comm _ _ e]
        exact q.2.2
theorem Upto.takeP {i : Nat} {oi : Oper} {v : Value} {k : Nat} {l : Array Bool} {a : Act} {w : World} (hi : ops[i]? = some oi)
    (hs : Region.noSelect ops = true) (hf : Region.free md ops l i = true) (hr : (Region.ready md ops l).contains i = true) (hm : (i != m) = true)
    (hQ : ∀ c a w, Q (.panic c) (a.put oi.dst v) w → Q (.panic c) a w) (hy : YieldsIf P ops (fun _ => True) oi v a) (hS : S w)
    (h : Upto P md ops Q S m k (l.setIfInBounds i true) (a.put oi.dst v) w) : Upto P md ops Q S m (k + 1) l a w := by
  rw [bne_iff_ne] at hm
  exact Upto.firstP hi (Region.noSelect_spec hs) hQ hm k l a w (Region.free_spec hi hf) (by simpa using hr) hy (fun _ => hS) h
/-- One operation alone may come up. -/
theorem Upto.one {i : Nat} {o : Oper} {k : Nat} {l : Array Bool} {a : Act} {w : World} (hr : Region.ready md ops l = [i]) (ho : ops[i]? = some o)
    (h : ∀ K' : Act → World → Prop, Shut (∀ a w, ((l.setIfInBounds i true).getD m false = false → S w) → Upto P md ops Q S m k (l.setIfInBounds i true) a w → K' a w) → if Region.wanted o (yielded ops a.tmps) = true then Oper.wp P o a w K' Q else K' (a.put o.dst undef) w) : Upto P md ops Q S m (k + 1) l a w := by
  refine ⟨fun h0 => (by rw [h0] at hr; cases hr), fun j hj => ?_⟩
  rw [hr, List.mem_singleton] at hj
  subst hj
  exact wpOp_step ho (fun K' hK => h K' (fun a w h1 h2 => hK a w ⟨h1, h2⟩))
theorem Upto.done {l : Array Bool} {a : Act} {w : World} (hr : Region.ready md ops l = []) (h : Q .normal a w) : ∀ k, Upto P md ops Q S m k l a w
  | 0 => ⟨hr, h⟩
  | _ + 1 => ⟨fun _ => h, by rw [hr]; exact fun i hi => absurd hi List.not_mem_nil⟩
theorem region_upto {id : Nat} {a : Act} {w : World} (m : Nat) (hm : P.follows .mixedOrders = true) (hS : S w.drew)
    (h : S w.drew → Upto P .any ops Q S m ops.size (Array.replicate ops.size false) a w.drew) : (Code.region id ops true).wp P Q a w :=
  wp_region_any hm (Upto.any _ _ _ _ (h hS))
end
end Go.Proofs.YtmhghkgcfgacdaaGreat.Mk
