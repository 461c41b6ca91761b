/- A drawn region whose last operation writes what others have read: S holds until that one has come. -/
import Derived.Test.YtedgnigogkmgkaaGreatDoorZ0
import Derived.Deep.RegionHeld
namespace Go.Proofs.YtedgnigogkmgkaaGreatDoor
section
variable {P : Program} {ops : Array Oper} {Q : Exit → Act → World → Prop} {md : Region.Mode} {S T : World → Prop} {z : Nat}
/-- Whatever is picked, S holds behind it, as long as z has not come. -/
def Zs (P : Program) (md : Region.Mode) (ops : Array Oper) (Q : Exit → Act → World → Prop) (S : World → Prop) (z : Nat) : Nat → Array Bool → Act → World → Prop
  | 0, L, a, w => Region.ready md ops L = [] ∧ Q .normal a w
  | n + 1, L, a, w => (Region.ready md ops L = [] → Q .normal a w) ∧ ∀ i ∈ Region.ready md ops L, wpOp P ops Q i (fun a' w' => ((L.setIfInBounds i true).getD z true = false → S w') ∧ Zs P md ops Q S z n (L.setIfInBounds i true) a' w') a w
theorem Zs.any : ∀ (n : Nat) (L : Array Bool) (a : Act) (w : World), Zs P md ops Q S z n L a w → wpAny P md ops Q n L a w
  | 0, _, _, _, h => h
  | n + 1, _, _, _, h => ⟨h.1, fun i hi => wpOp_mono (fun _ _ k => Zs.any n _ _ _ k.2) (h.2 i hi)⟩
theorem no_edge {i e : Nat} {L : Array Bool} (h1 : L.getD i true = false) (h2 : L.getD e false = true) : e ≠ i := fun q => by
  subst q
  rcases Nat.lt_or_ge e L.size with h | h
  · simp [h] at h1 h2; rw [h1] at h2; cases h2
  · simp [Array.getElem?_eq_none h] at h2
/-- An operation is taken ahead: z waits for it, or what it yields hangs on no world. -/
theorem Zs.ahead {i : Nat} {oi : Oper} {v : Value} (hi : ops[i]? = some oi) (hs : Region.noSelect ops = true) (hQ : ∀ c a w, Q (.panic c) (a.put oi.dst v) w → Q (.panic c) a w) (hiz : i ≠ z)
    (hST : ∀ w, S w → T w) : ∀ (n : Nat) (L : Array Bool) (a : Act) (w : World),
      (((∀ L, i ∈ Region.ready md ops L → z ∉ Region.ready md ops L) ∧ L.getD z true = false) ∨ ∀ w, T w) →
      (∀ j oj, ops[j]? = some oj → j ≠ i → L.getD j true = false → (∀ e ∈ oj.after, Region.binds md e = true → e.on ≠ i) → oi.apart ops oj = true) →
      i ∈ Region.ready md ops L → YieldsIf P ops T oi v a → (L.getD z true = false → S w) → Zs P md ops Q S z n (L.setIfInBounds i true) (a.put oi.dst v) w → Zs P md ops Q S z (n + 1) L a w := by
  have now : ∀ (n : Nat) (L : Array Bool) (a : Act) (w : World), (((∀ L, i ∈ Region.ready md ops L → z ∉ Region.ready md ops L) ∧ L.getD z true = false) ∨ ∀ w, T w) → YieldsIf P ops T oi v a → (L.getD z true = false → S w) → Zs P md ops Q S z n (L.setIfInBounds i true) (a.put oi.dst v) w →
      wpOp P ops Q i (fun a' w' => ((L.setIfInBounds i true).getD z true = false → S w') ∧ Zs P md ops Q S z n (L.setIfInBounds i true) a' w') a w := fun n L a w hz hy hS H =>
    hy.wpOp hi (by rcases hz with q | q; exact hST w (hS q.2); exact q w) ⟨fun q => hS (by rwa [getD_set_ne true hiz] at q), H⟩
  intro n
  induction n with
  | zero =>
    intro L a w hz _ hr hy hS H
    refine ⟨fun q => (by rw [q] at hr; cases hr), fun j hj => ?_⟩
    by_cases hji : j = i
    · subst hji; exact now 0 L a w hz hy hS H
    · exact absurd (H.1 ▸ ready_mono hj hji) (by simp)
  | succ n ih =>
    intro L a w hz hap hr hy hS H
    refine ⟨fun q => (by rw [q] at hr; cases hr), fun j hj => ?_⟩
    by_cases hji : j = i
    · subst hji; exact now (n + 1) L a w hz hy hS H
    have hjz : j = z → ∀ w, T w := fun e => by
      rcases hz with q | q
      · exact absurd (e ▸ hj) (q.1 L hr)
      · exact q
    have hH := H.2 j (ready_mono hj hji)
    obtain ⟨hju, oj, hoj, hedge⟩ := mem_ready.1 hj
    have hiu := (mem_ready.1 hr).1
    have hsel := fun k o cs b => Region.noSelect_spec hs k o cs b
    have h2 := wpOp_putIf hoj (hap j oj hoj hji hju (fun e he hb => no_edge hiu (hedge e he hb))) (fun cs b => hsel i oi cs b hi) (fun cs b => hsel j oj cs b hoj) hQ hy hH
    refine wpOp_mono (fun a' w' h3 => ?_) h2
    obtain ⟨hy3, hS3, H3⟩ := h3
    rw [Array.setIfInBounds_comm _ _ (Ne.symm hji)] at hS3 H3
    have hS4 : (L.setIfInBounds j true).getD z true = false → S w' := fun q => hS3 (by rw [getD_set_ne true hiz]; exact q)
    refine ⟨hS4, ih (L.setIfInBounds j true) a' w' ?_ (fun k ok hk hki hku hko => hap k ok hk hki ?_ hko) (ready_mono hr (Ne.symm hji)) hy3 hS4 H3⟩
    · rcases hz with q | q
      · by_cases e : j = z
        · exact .inr (hjz e)
        · exact .inl ⟨q.1, by rw [getD_set_ne true e]; exact q.2⟩
      · exact .inr q
    · by_cases e : j = k
      · subst e; exact hju
      · rwa [getD_set_ne true e] at hku
/-- z waits for i. -/
def waits (md : Region.Mode) (ops : Array Oper) (z i : Nat) : Bool := ((ops[z]?).map fun o => o.after.any fun e => Region.binds md e && e.on == i).getD false
theorem waits_spec {i : Nat} (h : waits md ops z i = true) (L : Array Bool) (hi : i ∈ Region.ready md ops L) : z ∉ Region.ready md ops L := fun hz => by
  obtain ⟨_, o, ho, he⟩ := mem_ready.1 hz
  unfold waits at h
  rw [ho] at h
  simp only [Option.map_some, Option.getD_some, Array.any_eq_true'] at h
  obtain ⟨e, hm, hq⟩ := h
  rw [Bool.and_eq_true, beq_iff_eq] at hq
  exact no_edge (mem_ready.1 hi).1 (he e hm hq.1) hq.2
/-- Taken ahead: z waits for it. -/
theorem Zs.take {i : Nat} {oi : Oper} {v : Value} {n : Nat} {L : Array Bool} {a : Act} {w : World} (hi : ops[i]? = some oi) (hs : Region.noSelect ops = true) (hf : Region.free md ops L i = true) (hr : (Region.ready md ops L).contains i = true) (hiz : i ≠ z) (hw : waits md ops z i = true) (hLz : L.getD z true = false)
    (hQ : ∀ c a w, Q (.panic c) (a.put oi.dst v) w → Q (.panic c) a w) (hy : YieldsIf P ops S oi v a) (hS : S w) (h : Zs P md ops Q S z n (L.setIfInBounds i true) (a.put oi.dst v) w) : Zs P md ops Q S z (n + 1) L a w :=
  Zs.ahead (T := S) hi hs hQ hiz (fun _ h => h) n L a w (.inl ⟨waits_spec hw, hLz⟩) (Region.free_spec hi hf) (by simpa using hr) hy (fun _ => hS) h
/-- Taken ahead: in whatever world. -/
theorem Zs.pure {i : Nat} {oi : Oper} {v : Value} {n : Nat} {L : Array Bool} {a : Act} {w : World} (hi : ops[i]? = some oi) (hs : Region.noSelect ops = true) (hf : Region.free md ops L i = true) (hr : (Region.ready md ops L).contains i = true) (hiz : i ≠ z)
    (hQ : ∀ c a w, Q (.panic c) (a.put oi.dst v) w → Q (.panic c) a w) (hy : YieldsIf P ops (fun _ => True) oi v a) (hS : S w) (h : Zs P md ops Q S z n (L.setIfInBounds i true) (a.put oi.dst v) w) : Zs P md ops Q S z (n + 1) L a w :=
  Zs.ahead (T := fun _ => True) hi hs hQ hiz (fun _ _ => trivial) n L a w (.inr (fun _ => trivial)) (Region.free_spec hi hf) (by simpa using hr) hy (fun _ => hS) h
/-- One alone may come. -/
theorem Zs.one {i : Nat} {oi : Oper} {n : Nat} {L : Array Bool} {a : Act} {w : World} (hr : Region.ready md ops L = [i]) (hi : ops[i]? = some oi) 
    (h : ∀ K' : Act → World → Prop, Shut (∀ a' w', ((L.setIfInBounds i true).getD z true = false → S w') → Zs P md ops Q S z n (L.setIfInBounds i true) a' w' → K' a' w') → if Region.wanted oi (yielded ops a.tmps) = true then Oper.wp P oi a w K' Q else K' (a.put oi.dst undef) w) : Zs P md ops Q S z (n + 1) L a w := by
  refine ⟨fun q => (by rw [q] at hr; cases hr), fun j hj => ?_⟩
  rw [hr] at hj
  obtain rfl : j = i := by simpa using hj
  exact wpOp_step hi (fun K' hK => h K' (fun a' w' h1 h2 => hK a' w' ⟨h1, h2⟩))
theorem Zs.done {L : Array Bool} {a : Act} {w : World} (hr : Region.ready md ops L = []) (h : Q .normal a w) : ∀ n, Zs P md ops Q S z n L a w
  | 0 => ⟨hr, h⟩
  | _ + 1 => ⟨fun _ => h, by rw [hr]; simp⟩
end
theorem Zs.region {P : Program} {ops : Array Oper} {Q : Exit → Act → World → Prop} {S : World → Prop} {id : Nat} {a : Act} {w : World} (z : Nat) (hm : P.follows .mixedOrders = true) (h : Zs P .any ops Q S z ops.size (Array.replicate ops.size false) a w.drew) : (Code.region id ops true).wp P Q a w :=
  wp_region_any hm (Zs.any _ _ _ _ h)
end Go.Proofs.YtedgnigogkmgkaaGreatDoor
