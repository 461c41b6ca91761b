import Derived.Test.YtdcidlgmnnaahaaGreatBaa
import Derived.Deep.RegionHeld
import Derived.Test.YtdcidlgmnnaahaaGreatBac
/- A drawn region whose last operation writes what others have read: S holds until that one has come. -/
namespace Go.Proofs.YtdcidlgmnnaahaaGreat
section
variable {P : Program} {ops : Array Oper} {Q : Exit → Act → World → Prop} {md : Region.Mode} {S T : World → Prop} {z : Nat}
/-- Whatever is picked, S holds behind it, as long as z has not come. -/
def Zs (P : Program) (md : Region.Mode) (ops : Array Oper) (Q : Exit → Act → World → Prop) (S : World → Prop) (z : Nat) : Nat → Array Bool → Act → World → Prop
  | 0, L, a, w => Region.ready md ops L = [] ∧ Q .normal a w
  | n + 1, L, a, w => (Region.ready md ops L = [] → Q .normal a w) ∧ ∀ i ∈ Region.ready md ops L, wpOp P ops Q i (fun a' w' => ((L.setIfInBounds i true).getD z true = false → S w') ∧ Zs P md ops Q S z n (L.setIfInBounds i true) a' w') a w
theorem Zs.any : ∀ (n : Nat) (L : Array Bool) (a : Act) (w : World), Zs P md ops Q S z n L a w → wpAny P md ops Q n L a w
  | 0, _, _, _, h => h
  | n + 1, _, _, _, h => ⟨h.1, fun i hi => wpOp_mono (fun _ _ k => Zs.any n _ _ _ k.2) (h.2 i hi)⟩
theorem no_edge {i e : Nat} {L : Array Bool} (h1 : L.getD i true = false) (h2 : L.getD e false = true) : e ≠ i := fun q => by
  subst q
  rcases Nat.lt_or_ge e L.size with h | h
  · simp [h] at h1 h2; rw [h1] at h2; cases h2
  · simp [Array.getElem?_eq_none h] at h2
/-- An operation is taken ahead: z waits for it, or what it yields hangs on no world. -/
theorem Zs.ahead {i : Nat} {oi : Oper} {v : Value} (hi : ops[i]? = some oi) (hs : Region.noSelect ops = true) (hQ : ∀ c a w, Q (.panic c) (a.put oi.dst v) w → Q (.panic c) a w) (hiz : i ≠ z)
    (hST : ∀ w, S w → T w) : ∀ (n : Nat) (L : Array Bool) (a : Act) (w : World),
      (((∀ L, i ∈ Region.ready md ops L → z ∉ Region.ready md ops L) ∧ L.getD z true = false) ∨ ∀ w, T w) →
      (∀ j oj, ops[j]? = some oj → j ≠ i → L.getD j true = false → (∀ e ∈ oj.after, Region.binds md e = true → e.on ≠ i) → oi.apart ops oj = true) →
      i ∈ Region.ready md ops L → YieldsIf P ops T oi v a → (L.getD z true = false → S w) → Zs P md ops Q S z n (L.setIfInBounds i true) (a.put oi.dst v) w → Zs P md ops Q S z (n + 1) L a w := by
  have now : ∀ (n : Nat) (L : Array Bool) (a : Act) (w : World), (((∀ L, i ∈ Region.ready md ops L → z ∉ Region.ready md ops L) ∧ L.getD z true = false) ∨ ∀ w, T w) → YieldsIf P ops T oi v a → (L.getD z true = false → S w) → Zs P md ops Q S z n (L.setIfInBounds i true) (a.put oi.dst v) w →
      wpOp P ops Q i (fun a' w' => ((L.setIfInBounds i true).getD z true = false → S w') ∧ Zs P md ops Q S z n (L.setIfInBounds i true) a' w') a w := fun n L a w hz hy hS H =>
    hy.wpOp hi (by rcases hz with q | q; exact hST w (hS q.2); exact q w) ⟨fun q => hS (by rwa [getD_set_ne true hiz] at q), H⟩
  intro n
  induction n with
  | zero =>
    intro L a w hz _ hr hy hS H
    refine ⟨fun q => (by rw [q] at hr; cases hr), fun j hj => ?_⟩
    by_cases hji : j = i
    · subst hji; exact now 0 L a w hz hy hS H
    · exact absurd (H.1 ▸ ready_mono hj hji) (by simp)
  | succ n ih =>
    intro L a w hz hap hr hy hS H
    refine ⟨fun q => (by rw [q] at hr; cases hr), fun j hj => ?_⟩
    by_cases hji : j = i
    · subst hji; exact now (n + 1) L a w hz hy hS H
    have hjz : j = z → ∀ w, T w := fun e => by
      rcases hz with q | q
      · exact absurd (e ▸ hj) (q.1 L hr)
      · exact q
    have hH := H.2 j (ready_mono hj hji)
    obtain ⟨hju, oj, hoj, hedge⟩ := mem_ready.1 hj
    have hiu := (mem_ready.1 hr).1
    have hsel := fun k o cs b => Region.noSelect_spec hs k o cs b
    have h2 := wpOp_putIf hoj (hap j oj hoj hji hju (fun e he hb => no_edge hiu (hedge e he hb))) (fun cs b => hsel i oi cs b hi) (fun cs b => hsel j oj cs b hoj) hQ hy hH
    refine wpOp_mono (fun a' w' h3 => ?_) h2
    obtain ⟨hy3, hS3, H3⟩ := h3
    rw [Array.setIfInBounds_comm _ _ (Ne.symm hji)] at hS3 H3
    have hS4 : (L.setIfInBounds j true).getD z true = false → S w' := fun q => hS3 (by rw [getD_set_ne true hiz]; exact q)
    refine ⟨hS4, ih (L.setIfInBounds j true) a' w' ?_ (fun k ok hk hki hku hko => hap k ok hk hki ?_ hko) (ready_mono hr (Ne.symm hji)) hy3 hS4 H3⟩
    · rcases hz with q | q
      · by_cases e : j = z
        · exact .inr (hjz e)
        · exact .inl ⟨q.1, by rw [getD_set_ne true e]; exact q.2⟩
      · exact .inr q
    · by_cases e : j = k
      · subst e; exact hju
      · rwa [getD_set_ne true e] at hku
/-- z waits for i. -/
def waits (md : Region.Mode) (ops : Array Oper) (z i : Nat) : Bool := ((ops[z]?).map fun o => o.after.any fun e => Region.binds md e && e.on == i).getD false
theorem waits_spec {i : Nat} (h : waits md ops z i = true) (L : Array Bool) (hi : i ∈ Region.ready md ops L) : z ∉ Region.ready md ops L := fun hz => by
  obtain ⟨_, o, ho, he⟩ := mem_ready.1 hz
  unfold waits at h
  rw [ho] at h
  simp only [Option.map_some, Option.getD_some, Array.any_eq_true'] at h
  obtain ⟨e, hm, hq⟩ := h
  rw [Bool.and_eq_true, beq_iff_eq] at hq
  exact no_edge (mem_ready.1 hi).1 (he e hm hq.1) hq.2
/-- Taken ahead: z waits for it. -/
theorem Zs.take {i : Nat} {oi : Oper} {v : Value} {n : Nat} {L : Array Bool} {a : Act} {w : World} (hi : ops[i]? = some oi) (hs : Region.noSelect ops = true) (hf : Region.free md ops L i = true) (hr : (Region.ready md ops L).contains i = true) (hiz : i ≠ z) (hw : waits md ops z i = true) (hLz : L.getD z true = false)
    (hQ : ∀ c a w, Q (.panic c) (a.put oi.dst v) w → Q (.panic c) a w) (hy : YieldsIf P ops S oi v a) (hS : S w) (h : Zs P md ops Q S z n (L.setIfInBounds i true) (a.put oi.dst v) w) : Zs P md ops Q S z (n + 1) L a w :=
  Zs.ahead (T := S) hi hs hQ hiz (fun _ h => h) n L a w (.inl ⟨waits_spec hw, hLz⟩) (Region.free_spec hi hf) (by simpa using hr) hy (fun _ => hS) h
/-- Taken ahead: in whatever world. -/
theorem Zs.pure {i : Nat} {oi : Oper} {v : Value} {n : Nat} {L : Array Bool} {a : Act} {w : World} (hi : ops[i]? = some oi) (hs : Region.noSelect ops = true) (hf : Region.free md ops L i = true) (hr : (Region.ready md ops L).contains i = true) (hiz : i ≠ z)
    (hQ : ∀ c a w, Q (.panic c) (a.put oi.dst v) w → Q (.panic c) a w) (hy : YieldsIf P ops (fun _ => True) oi v a) (hS : S w) (h : Zs P md ops Q S z n (L.setIfInBounds i true) (a.put oi.dst v) w) : Zs P md ops Q S z (n + 1) L a w :=
  Zs.ahead (T := fun _ => True) hi hs hQ hiz (fun _ _ => trivial) n L a w (.inr (fun _ => trivial)) (Region.free_spec hi hf) (by simpa using hr) hy (fun _ => hS) h
/-- One alone may come. -/
theorem Zs.one {i : Nat} {oi : Oper} {n : Nat} {L : Array Bool} {a : Act} {w : World} (hr : Region.ready md ops L = [i]) (hi : ops[i]? = some oi) 
    (h : ∀ K' : Act → World → Prop, Shut (∀ a' w', ((L.setIfInBounds i true).getD z true = false → S w') → Zs P md ops Q S z n (L.setIfInBounds i true) a' w' → K' a' w') → if Region.wanted oi (yielded ops a.tmps) = true then Oper.wp P oi a w K' Q else K' (a.put oi.dst undef) w) : Zs P md ops Q S z (n + 1) L a w := by
  refine ⟨fun q => (by rw [q] at hr; cases hr), fun j hj => ?_⟩
  rw [hr] at hj
  obtain rfl : j = i := by simpa using hj
  exact wpOp_step hi (fun K' hK => h K' (fun a' w' h1 h2 => hK a' w' ⟨h1, h2⟩))
theorem Zs.done {L : Array Bool} {a : Act} {w : World} (hr : Region.ready md ops L = []) (h : Q .normal a w) : ∀ n, Zs P md ops Q S z n L a w
  | 0 => ⟨hr, h⟩
  | _ + 1 => ⟨fun _ => h, by rw [hr]; simp⟩
end
theorem Zs.region {P : Program} {ops : Array Oper} {Q : Exit → Act → World → Prop} {S : World → Prop} {id : Nat} {a : Act} {w : World} (z : Nat) (hm : P.follows .mixedOrders = true) (h : Zs P .any ops Q S z ops.size (Array.replicate ops.size false) a w.drew) : (Code.region id ops true).wp P Q a w :=
  wp_region_any hm (Zs.any _ _ _ _ h)
end Go.Proofs.YtdcidlgmnnaahaaGreat
/- Taking ahead under Zs what z waits for over other operations: what is listed has all that it waits for listed. -/
namespace Go.Proofs.YtdcidlgmnnaahaaGreat
section
variable {P : Program} {ops : Array Oper} {Q : Exit → Act → World → Prop} {md : Region.Mode} {S T : World → Prop} {z : Nat}
/-- Whatever is listed waits for nothing that is not. -/
def Closed (md : Region.Mode) (ops : Array Oper) (L : Array Bool) : Prop := ∀ j oj, ops[j]? = some oj → L.getD j false = true → ∀ e ∈ oj.after, Region.binds md e = true → L.getD e.on false = true
theorem getD_true {L : Array Bool} {i k : Nat} (h : L.getD k false = true) : (L.setIfInBounds i true).getD k false = true := by
  by_cases e : i = k
  · subst e
    have hs : i < L.size := by
      rcases Nat.lt_or_ge i L.size with q | q
      · exact q
      · simp [Array.getElem?_eq_none q] at h
    simp [hs]
  · rw [getD_set_ne false e]; exact h
theorem Closed.next {L : Array Bool} (h : Closed md ops L) {i : Nat} (hi : i ∈ Region.ready md ops L) : Closed md ops (L.setIfInBounds i true) := by
  obtain ⟨_, oi, hoi, hedge⟩ := mem_ready.1 hi
  intro j oj hj hl e he hb
  by_cases q : i = j
  · subst q
    rw [hoi] at hj
    cases hj
    exact getD_true (hedge e he hb)
  · rw [getD_set_ne false q] at hl
    exact getD_true (h j oj hj hl e he hb)
/-- j waits for i, over others or not. -/
def reach (md : Region.Mode) (ops : Array Oper) (i : Nat) : Nat → Nat → Bool
  | 0, _ => false
  | f + 1, j => ((ops[j]?).map fun o => o.after.any fun e => Region.binds md e && (e.on == i || reach md ops i f e.on)).getD false
theorem off_of {L : Array Bool} {i : Nat} (h : L.getD i true = false) : L.getD i false = false := by
  rcases Nat.lt_or_ge i L.size with q | q
  · simp [q] at h ⊢; exact h
  · simp [Array.getElem?_eq_none q] at h
theorem reach_spec {i : Nat} {L : Array Bool} (hC : Closed md ops L) (hi : L.getD i true = false) : ∀ (f j : Nat), reach md ops i f j = true → L.getD j false = false ∧ j ∉ Region.ready md ops L
  | 0, _, h => by cases h
  | f + 1, j, h => by
    unfold reach at h
    cases ho : ops[j]? with
    | none => rw [ho] at h; cases h
    | some o =>
      rw [ho] at h
      simp only [Option.map_some, Option.getD_some, Array.any_eq_true'] at h
      obtain ⟨e, hm, hq⟩ := h
      rw [Bool.and_eq_true] at hq
      have hoff : L.getD e.on false = false := by
        rw [Bool.or_eq_true, beq_iff_eq] at hq
        rcases hq.2 with r | r
        · rw [r]; exact off_of hi
        · exact (reach_spec hC hi f e.on r).1
      refine ⟨?_, fun hr => ?_⟩
      · cases hl : L.getD j false with
        | false => rfl
        | true => have := hC j o ho hl e hm hq.1; rw [hoff] at this; cases this
      · obtain ⟨_, o2, ho2, hedge⟩ := mem_ready.1 hr
        rw [ho] at ho2
        cases ho2
        have := hedge e hm hq.1
        rw [hoff] at this
        cases this
theorem Zs.aheadC {i : Nat} {oi : Oper} {v : Value} {f : Nat} (hi : ops[i]? = some oi) (hs : Region.noSelect ops = true) (hQ : ∀ c a w, Q (.panic c) (a.put oi.dst v) w → Q (.panic c) a w) (hiz : i ≠ z) (hrz : reach md ops i f z = true) : ∀ (n : Nat) (L : Array Bool) (a : Act) (w : World), Closed md ops L → L.getD z true = false →
      (∀ j oj, ops[j]? = some oj → j ≠ i → L.getD j true = false → (∀ e ∈ oj.after, Region.binds md e = true → e.on ≠ i) → oi.apart ops oj = true) →
      i ∈ Region.ready md ops L → YieldsIf P ops S oi v a → S w → Zs P md ops Q S z n (L.setIfInBounds i true) (a.put oi.dst v) w → Zs P md ops Q S z (n + 1) L a w := by
  have now : ∀ (n : Nat) (L : Array Bool) (a : Act) (w : World), YieldsIf P ops S oi v a → S w → Zs P md ops Q S z n (L.setIfInBounds i true) (a.put oi.dst v) w →
      wpOp P ops Q i (fun a' w' => ((L.setIfInBounds i true).getD z true = false → S w') ∧ Zs P md ops Q S z n (L.setIfInBounds i true) a' w') a w := fun n L a w hy hS H =>
    hy.wpOp hi hS ⟨fun _ => hS, H⟩
  intro n
  induction n with
  | zero =>
    intro L a w _ _ _ hr hy hS H
    refine ⟨fun q => (by rw [q] at hr; cases hr), fun j hj => ?_⟩
    by_cases hji : j = i
    · subst hji; exact now 0 L a w hy hS H
    · exact absurd (H.1 ▸ ready_mono hj hji) (by simp)
  | succ n ih =>
    intro L a w hC hLz hap hr hy hS H
    refine ⟨fun q => (by rw [q] at hr; cases hr), fun j hj => ?_⟩
    by_cases hji : j = i
    · subst hji; exact now (n + 1) L a w hy hS H
    have hiu := (mem_ready.1 hr).1
    have hjz : j ≠ z := fun e => (reach_spec hC hiu f z hrz).2 (e ▸ hj)
    have hH := H.2 j (ready_mono hj hji)
    obtain ⟨hju, oj, hoj, hedge⟩ := mem_ready.1 hj
    have hsel := fun k o cs b => Region.noSelect_spec hs k o cs b
    have h2 := wpOp_putIf hoj (hap j oj hoj hji hju (fun e he hb => no_edge hiu (hedge e he hb))) (fun cs b => hsel i oi cs b hi) (fun cs b => hsel j oj cs b hoj) hQ hy hH
    refine wpOp_mono (fun a' w' h3 => ?_) h2
    obtain ⟨hy3, hS3, H3⟩ := h3
    rw [Array.setIfInBounds_comm _ _ (Ne.symm hji)] at hS3 H3
    have hLz' : (L.setIfInBounds j true).getD z true = false := by rw [getD_set_ne true hjz]; exact hLz
    have hS4 : S w' := hS3 (by rw [getD_set_ne true hiz]; exact hLz')
    refine ⟨fun _ => hS4, ih (L.setIfInBounds j true) a' w' (hC.next hj) hLz' (fun k ok hk hki hku hko => hap k ok hk hki ?_ hko) (ready_mono hr (Ne.symm hji)) hy3 hS4 H3⟩
    by_cases e : j = k
    · subst e; exact hju
    · rwa [getD_set_ne true e] at hku
/-- All that is listed waits for nothing that is not: told by a reckoning. -/
def closedB (md : Region.Mode) (ops : Array Oper) (L : Array Bool) : Bool := (List.range ops.size).all fun j => !(L.getD j false) || ((ops[j]?).map fun o => o.after.all fun e => !(Region.binds md e) || L.getD e.on false).getD true
theorem closed_of {L : Array Bool} (h : closedB md ops L = true) : Closed md ops L := by
  intro j oj hj hl e he hb
  have hjl : j < ops.size := (Array.getElem?_eq_some_iff.1 hj).1
  have := List.all_eq_true.1 h j (List.mem_range.2 hjl)
  rw [hl, hj] at this
  simp only [Bool.not_true, Bool.false_or, Option.map_some, Option.getD_some, Array.all_eq_true'] at this
  have := this e he
  rw [hb] at this
  simpa using this
/-- Taken ahead: z waits for it, over others or not. -/
theorem Zs.takeC {i : Nat} {oi : Oper} {v : Value} {n : Nat} {L : Array Bool} {a : Act} {w : World} (f : Nat) (hi : ops[i]? = some oi) (hs : Region.noSelect ops = true) (hf : Region.free md ops L i = true) (hr : (Region.ready md ops L).contains i = true) (hiz : i ≠ z) (hw : reach md ops i f z = true) (hLz : L.getD z true = false) (hC : closedB md ops L = true)
    (hQ : ∀ c a w, Q (.panic c) (a.put oi.dst v) w → Q (.panic c) a w) (hy : YieldsIf P ops S oi v a) (hS : S w) (h : Zs P md ops Q S z n (L.setIfInBounds i true) (a.put oi.dst v) w) : Zs P md ops Q S z (n + 1) L a w :=
  Zs.aheadC hi hs hQ hiz hw n L a w (closed_of hC) hLz (Region.free_spec hi hf) (by simpa using hr) hy hS h
end
end Go.Proofs.YtdcidlgmnnaahaaGreat
/- Whether one is ahead of another: of structs. -/
namespace Go.Proofs.YtdcidlgmnnaahaaGreat.Qd
open Go.RowKit Go.Shelf Go.Lib
attribute [local go_sem] Oper.semAt_some
/-- A function that tells whether one's key is less than another's. -/
structure Bf (nb : NB) (key : El → Int) : Prop where
  fv : nb.f = .func (.func nb.n) #[] #[]
  eg : ∀ args w, (callFunc nb.n args).run Tryz.prog w = .ok (.enter nb.n args) w
  ca : ∀ (a b : El) (w : World), Calls Tryz.prog nb.n #[ev a, ev b] w fun e w' => e = .returned (.bool (decide (key a < key b))) ∧ Below w.heap.size w w'
def fnV (nb : NB) : Value := nb.f
set_option maxRecDepth 100000 in
set_option maxHeartbeats 2000000 in
theorem ahead_any {nb : NB} {key : El → Int} (hB : Bf nb key) (q : Nat) (a b : El) (w : World) (hq : w.cell? ⟨q, 0, none⟩ = some (fnV nb)) :
    Calls Tryz.prog 117 #[.pointer (some ⟨q, 0, none⟩), ev a, ev b] w fun e w' => e = .returned (.bool (decide (key a < key b))) ∧ Below w.heap.size w w' := by
  unfold fnV at hq
  rw [hB.fv] at hq
  obtain ⟨n, hn⟩ : ∃ n, w.heap.size = n := ⟨_, rfl⟩
  obtain ⟨W0, hW0⟩ : ∃ W0, (w.alloc (.cells #[vc0 a, vc1 a, vc2 a] 68)).alloc (.cells #[vc0 b, vc1 b, vc2 b] 68) = W0 := ⟨_, rfl⟩
  have b0 : Below w.heap.size w W0 := by rw [← hW0]; exact ((Below.refl _ _).alloc (Nat.le_refl _) _).alloc (by simp) _
  have s0 : W0.heap.size = n + 2 := by rw [← hW0]; simp [hn]
  have ka : ∀ j u, #[vc0 a, vc1 a, vc2 a][j]? = some u → W0.cell? ⟨n, j, none⟩ = some u := fun j u hj => by rw [← hW0]; exact (Mv.alloc (fun _ => False) _ _).cell (fun h => h) (cell_at hn hj)
  have kb : ∀ j u, #[vc0 b, vc1 b, vc2 b][j]? = some u → W0.cell? ⟨n + 1, j, none⟩ = some u := fun j u hj => by rw [← hW0]; exact cell_at (by simp [hn]) hj
  have hS : W0.drew.cell? ⟨q, 0, none⟩ = some (.func (.func nb.n) #[] #[]) ∧ (W0.drew.cell? ⟨n, 0, none⟩ = some (vc0 a) ∧ W0.drew.cell? ⟨n, 1, none⟩ = some (vc1 a) ∧ W0.drew.cell? ⟨n, 2, none⟩ = some (vc2 a)) ∧ (W0.drew.cell? ⟨n + 1, 0, none⟩ = some (vc0 b) ∧ W0.drew.cell? ⟨n + 1, 1, none⟩ = some (vc1 b) ∧ W0.drew.cell? ⟨n + 1, 2, none⟩ = some (vc2 b)) := ⟨bcell b0 (cell_lt hq) hq, ⟨ka 0 _ rfl, ka 1 _ rfl, ka 2 _ rfl⟩, ⟨kb 0 _ rfl, kb 1 _ rfl, kb 2 _ rfl⟩⟩
  obtain ⟨r, hr0⟩ : ∃ r, decide (key a < key b) = r := ⟨_, rfl⟩
  have hC : Hid (Calls Tryz.prog nb.n #[ev a, ev b] W0.drew fun e w' => e = .returned (.bool r) ∧ (w'.cell? ⟨q, 0, none⟩ = some (.func (.func nb.n) #[] #[]) ∧ (w'.cell? ⟨n, 0, none⟩ = some (vc0 a) ∧ w'.cell? ⟨n, 1, none⟩ = some (vc1 a) ∧ w'.cell? ⟨n, 2, none⟩ = some (vc2 a)) ∧ (w'.cell? ⟨n + 1, 0, none⟩ = some (vc0 b) ∧ w'.cell? ⟨n + 1, 1, none⟩ = some (vc1 b) ∧ w'.cell? ⟨n + 1, 2, none⟩ = some (vc2 b))) ∧ Below w.heap.size w w') := by
    refine (hB.ca a b W0.drew).mono ?_
    rintro e w' ⟨rfl, hb⟩
    have f : ∀ {k j : Nat} {v : Value}, W0.drew.cell? ⟨k, j, none⟩ = some v → w'.cell? ⟨k, j, none⟩ = some v := fun {k j v} c => bcell hb (cell_lt c) c
    refine ⟨by rw [hr0], ⟨f hS.1, ?_, ?_⟩, (b0.trans ((Below.refl _ _).drew)).trans (hb.mono b0.size)⟩
    · have c := hS.2.1
      exact ⟨f c.1, f c.2.1, f c.2.2⟩
    · have c := hS.2.2
      exact ⟨f c.1, f c.2.1, f c.2.2⟩
  have eg := hB.eg
  have hne : ∀ w, (binOp .neq 69 (.func (.func nb.n) #[] #[]) Value.nilFunc).run Tryz.prog w = .ok (.bool true) w := fun w => by first | kernel_rfl | rfl
  rw [hr0]
  clear hB hr0 b0 s0 ka kb
  go_enter Tryz.func117, Tryz.ntmps117
  go_wp2_with (rw [hW0])
  refine Zs.region (S := fun W => W.cell? ⟨q, 0, none⟩ = some (.func (.func nb.n) #[] #[]) ∧ (W.cell? ⟨n, 0, none⟩ = some (vc0 a) ∧ W.cell? ⟨n, 1, none⟩ = some (vc1 a) ∧ W.cell? ⟨n, 2, none⟩ = some (vc2 a)) ∧ (W.cell? ⟨n + 1, 0, none⟩ = some (vc0 b) ∧ W.cell? ⟨n + 1, 1, none⟩ = some (vc1 b) ∧ W.cell? ⟨n + 1, 2, none⟩ = some (vc2 b))) 14 (by kernel_rfl) ?_
  refine Zs.pure (i := 0) (oi := ⟨some 7, _, _, _, _, _⟩) (v := .pointer (some ⟨q, 0, none⟩)) rfl (by kernel_rfl) (by kernel_rfl) (by kernel_rfl) (by decide) (fun _ _ _ h => h) (Or.inl ⟨by rfl, ?hy0⟩) hS ?_
  case hy0 => (intro w hSw; (try dsimp only at hSw); go_simp; try with_reducible rfl)
  simp only [Act.put, List.setIfInBounds_toArray, List.set_cons_zero, List.set_cons_succ]
  refine Zs.pure (i := 1) (oi := ⟨some 8, _, _, _, _, _⟩) (v := .pointer (some ⟨q, 0, none⟩)) rfl (by kernel_rfl) (by kernel_rfl) (by kernel_rfl) (by decide) (fun _ _ _ h => h) (Or.inl ⟨by rfl, ?hy1⟩) hS ?_
  case hy1 => (intro w hSw; (try dsimp only at hSw); go_simp; try with_reducible rfl)
  simp only [Act.put, List.setIfInBounds_toArray, List.set_cons_zero, List.set_cons_succ]
  refine Zs.pure (i := 2) (oi := ⟨some 9, _, _, _, _, _⟩) (v := .pointer (some ⟨q, 0, none⟩)) rfl (by kernel_rfl) (by kernel_rfl) (by kernel_rfl) (by decide) (fun _ _ _ h => h) (Or.inl ⟨by rfl, ?hy2⟩) hS ?_
  case hy2 => (intro w hSw; (try dsimp only at hSw); go_simp; try with_reducible rfl)
  simp only [Act.put, List.setIfInBounds_toArray, List.set_cons_zero, List.set_cons_succ]
  refine Zs.take (i := 3) (oi := ⟨some 10, _, _, _, _, _⟩) (v := .func (.func nb.n) #[] #[]) rfl (by kernel_rfl) (by kernel_rfl) (by kernel_rfl) (by decide) (by kernel_rfl) (by kernel_rfl) (fun _ _ _ h => h) (Or.inl ⟨by rfl, ?hy3⟩) hS ?_
  case hy3 => (intro w hSw; (try dsimp only at hSw); go_simp; try with_reducible rfl)
  simp only [Act.put, List.setIfInBounds_toArray, List.set_cons_zero, List.set_cons_succ]
  refine Zs.pure (i := 4) (oi := ⟨some 11, _, _, _, _, _⟩) (v := .bool true) rfl (by kernel_rfl) (by kernel_rfl) (by kernel_rfl) (by decide) (fun _ _ _ h => h) (Or.inl ⟨by rfl, ?hy4⟩) hS ?_
  case hy4 => (intro w hSw; (try dsimp only at hSw); go_simp; try with_reducible rfl)
  simp only [Act.put, List.setIfInBounds_toArray, List.set_cons_zero, List.set_cons_succ]
  refine Zs.pure (i := 5) (oi := ⟨some 12, _, _, _, _, _⟩) (v := .bool true) rfl (by kernel_rfl) (by kernel_rfl) (by kernel_rfl) (by decide) (fun _ _ _ h => h) (Or.inl ⟨by rfl, ?hy5⟩) hS ?_
  case hy5 => (intro w hSw; (try dsimp only at hSw); go_simp; try with_reducible rfl)
  simp only [Act.put, List.setIfInBounds_toArray, List.set_cons_zero, List.set_cons_succ]
  refine Zs.pure (i := 6) (oi := ⟨some 13, _, _, _, _, _⟩) (v := .pointer (some ⟨q, 0, none⟩)) rfl (by kernel_rfl) (by kernel_rfl) (by kernel_rfl) (by decide) (fun _ _ _ h => h) (Or.inl ⟨by rfl, ?hy6⟩) hS ?_
  case hy6 => (intro w hSw; (try dsimp only at hSw); go_simp; try with_reducible rfl)
  simp only [Act.put, List.setIfInBounds_toArray, List.set_cons_zero, List.set_cons_succ]
  refine Zs.pure (i := 7) (oi := ⟨some 14, _, _, _, _, _⟩) (v := .pointer (some ⟨q, 0, none⟩)) rfl (by kernel_rfl) (by kernel_rfl) (by kernel_rfl) (by decide) (fun _ _ _ h => h) (Or.inl ⟨by rfl, ?hy7⟩) hS ?_
  case hy7 => (intro w hSw; (try dsimp only at hSw); go_simp; try with_reducible rfl)
  simp only [Act.put, List.setIfInBounds_toArray, List.set_cons_zero, List.set_cons_succ]
  refine Zs.pure (i := 8) (oi := ⟨some 15, _, _, _, _, _⟩) (v := .pointer (some ⟨q, 0, none⟩)) rfl (by kernel_rfl) (by kernel_rfl) (by kernel_rfl) (by decide) (fun _ _ _ h => h) (Or.inl ⟨by rfl, ?hy8⟩) hS ?_
  case hy8 => (intro w hSw; (try dsimp only at hSw); go_simp; try with_reducible rfl)
  simp only [Act.put, List.setIfInBounds_toArray, List.set_cons_zero, List.set_cons_succ]
  refine Zs.take (i := 9) (oi := ⟨some 16, _, _, _, _, _⟩) (v := .func (.func nb.n) #[] #[]) rfl (by kernel_rfl) (by kernel_rfl) (by kernel_rfl) (by decide) (by kernel_rfl) (by kernel_rfl) (fun _ _ _ h => h) (Or.inl ⟨by rfl, ?hy9⟩) hS ?_
  case hy9 => (intro w hSw; (try dsimp only at hSw); go_simp; try with_reducible rfl)
  simp only [Act.put, List.setIfInBounds_toArray, List.set_cons_zero, List.set_cons_succ]
  refine Zs.take (i := 10) (oi := ⟨some 17, _, _, _, _, _⟩) (v := .agg #[vc0 a, vc1 a, vc2 a]) rfl (by kernel_rfl) (by kernel_rfl) (by kernel_rfl) (by decide) (by kernel_rfl) (by kernel_rfl) (fun _ _ _ h => h) (Or.inl ⟨by rfl, ?hy10⟩) hS ?_
  case hy10 => (intro w hSw; (try dsimp only at hSw); go_simp; try with_reducible rfl)
  simp only [Act.put, List.setIfInBounds_toArray, List.set_cons_zero, List.set_cons_succ]
  refine Zs.take (i := 11) (oi := ⟨some 18, _, _, _, _, _⟩) (v := .agg #[vc0 b, vc1 b, vc2 b]) rfl (by kernel_rfl) (by kernel_rfl) (by kernel_rfl) (by decide) (by kernel_rfl) (by kernel_rfl) (fun _ _ _ h => h) (Or.inl ⟨by rfl, ?hy11⟩) hS ?_
  case hy11 => (intro w hSw; (try dsimp only at hSw); go_simp; try with_reducible rfl)
  simp only [Act.put, List.setIfInBounds_toArray, List.set_cons_zero, List.set_cons_succ]
  refine Zs.one (i := 12) (oi := ⟨some 19, _, _, _, _, _⟩) (by kernel_rfl) rfl (fun K hK => ?_)
  go_simp
  refine hC.out.mono ?_
  rintro e V1 ⟨rfl, hS1, hb1⟩
  have hb1H := hidP hb1
  clear hb1 hC
  go_wp2_with fail
  refine hK.out _ _ (fun _ => hS1) ?_
  clear hK K
  try simp only [Act.put, List.setIfInBounds_toArray, List.set_cons_zero, List.set_cons_succ]
  refine Zs.pure (i := 13) (oi := ⟨some 20, _, _, _, _, _⟩) (v := .bool r) rfl (by kernel_rfl) (by kernel_rfl) (by kernel_rfl) (by decide) (fun _ _ _ h => h) (Or.inl ⟨by rfl, ?hy13⟩) hS1 ?_
  case hy13 => (intro w hSw; (try dsimp only at hSw); go_simp; try with_reducible rfl)
  simp only [Act.put, List.setIfInBounds_toArray, List.set_cons_zero, List.set_cons_succ]
  refine Zs.one (i := 14) (oi := ⟨some 6, _, _, _, _, _⟩) (by kernel_rfl) rfl (fun K hK => ?_)
  go_simp
  refine hK.out _ _ (fun q => absurd q (by decide)) ?_
  clear hK K
  try simp only [Act.put, List.setIfInBounds_toArray, List.set_cons_zero, List.set_cons_succ]
  refine Zs.done (by kernel_rfl) ?_ _
  go_wp2_with fail
  go_ret
  exact ⟨rfl, hb1H.out⟩
end Go.Proofs.YtdcidlgmnnaahaaGreat.Qd
