/- Plain mathematics of merging: from the end on, and from the front. -/
import Derived.Test.YtmoafagemdnifaaDoorF13
namespace Go.Proofs.YtmoafagemdnifaaDoor
/-- An empty value of the heading of y stands in l. -/
def anyE (l : List St) (y : St) : Bool := l.any fun z => decide (z.v = ⟨#[]⟩ ∧ z.s = y.s ∧ z.k = y.k)
/-- What is kept. -/
def kp : List St → List St
  | [] => []
  | x :: r => if x.v = ⟨#[]⟩ ∨ anyE r x = true then kp r else x :: kp r
theorem kp_no {x : St} {r : List St} (h : x.v = ⟨#[]⟩ ∨ anyE r x = true) : kp (x :: r) = kp r := if_pos h
theorem kp_yes {x : St} {r : List St} (h1 : ¬ x.v = ⟨#[]⟩) (h2 : anyE r x = false) : kp (x :: r) = x :: kp r := if_neg (fun h => h.elim h1 (fun e => by rw [h2] at e; cases e))
theorem fold_kp (l : List St) : (l.reverse.foldl stp ([], [])).2.reverse = kp l ∧ ∀ a c, inE (l.reverse.foldl stp ([], [])).1 a c = l.any fun z => decide (z.v = ⟨#[]⟩ ∧ z.s = a ∧ z.k = c) := by
  induction l with
  | nil => exact ⟨rfl, fun _ _ => rfl⟩
  | cons x r ih =>
    rw [List.reverse_cons, List.foldl_append]
    simp only [List.foldl_cons, List.foldl_nil]
    obtain ⟨ih1, ih2⟩ := ih
    generalize List.foldl stp ([], []) r.reverse = p at ih1 ih2
    unfold stp
    by_cases hv : x.v = ⟨#[]⟩
    · rw [if_pos hv, kp_no (.inl hv)]
      refine ⟨ih1, fun a c => ?_⟩
      have := ih2 a c
      unfold inE at this ⊢
      simp only [List.any_cons, this, hv, true_and]
    · rw [if_neg hv]
      have hin : inE p.1 x.s x.k = anyE r x := ih2 x.s x.k
      rw [hin]
      have h2 : ∀ a c, ((x :: r).any fun z => decide (z.v = ⟨#[]⟩ ∧ z.s = a ∧ z.k = c)) = (r.any fun z => decide (z.v = ⟨#[]⟩ ∧ z.s = a ∧ z.k = c)) := fun a c => by simp [hv]
      cases ha : anyE r x
      · rw [kp_yes hv ha, if_neg (by simp)]
        exact ⟨by simp [ih1], fun a c => by rw [ih2, h2]⟩
      · rw [kp_no (.inr ha), if_pos rfl]
        exact ⟨ih1, fun a c => by rw [ih2, h2]⟩
/-- One setting more, from the front. -/
def stepR (out : List St) (x : St) : List St := if x.v = ⟨#[]⟩ then out.filter (fun y => !decide (y.s = x.s ∧ y.k = x.k)) else out ++ [x]
theorem foldR : ∀ (l out : List St), l.foldl stepR out = out.filter (fun y => !anyE l y) ++ kp l
  | [], out => by
    have : out.filter (fun y => !anyE [] y) = out := List.filter_eq_self.2 (fun _ _ => rfl)
    rw [this, kp, List.append_nil]; rfl
  | x :: r, out => by
    rw [List.foldl_cons, foldR r]
    unfold stepR
    by_cases hv : x.v = ⟨#[]⟩
    · rw [if_pos hv, kp_no (.inl hv), List.filter_filter]
      congr 1
      refine List.filter_congr (fun y _ => ?_)
      have e : decide (x.s = y.s ∧ x.k = y.k) = decide (y.s = x.s ∧ y.k = x.k) := by
        rw [decide_eq_decide]; constructor <;> (rintro ⟨h1, h2⟩; exact ⟨h1.symm, h2.symm⟩)
      simp only [anyE, List.any_cons, hv, true_and, e, Bool.not_or, Bool.and_comm]
    · rw [if_neg hv, List.filter_append]
      have h2 : ∀ y, anyE (x :: r) y = anyE r y := fun y => by simp [anyE, hv]
      simp only [h2]
      cases ha : anyE r x
      · rw [kp_yes hv ha]; simp [ha]
      · rw [kp_no (.inr ha)]; simp [ha]
/-- Merging from the end on is merging from the front. -/
theorem merge_front (l : List St) : (l.reverse.foldl stp ([], [])).2.reverse = l.foldl stepR [] := by
  rw [(fold_kp l).1, foldR]; simp
/-- The values of one section and key. -/
def vals (sec key : ByteArray) (l : List St) : List ByteArray := (l.filter fun x => decide (x.s = sec ∧ x.k = key)).map (·.v)
theorem hits_vals (sec key : ByteArray) : ∀ (l : List St) (i : Nat), (hits sec key i l).map Prod.snd = vals sec key l
  | [], _ => rfl
  | x :: r, i => by
    unfold hits vals
    have ih := hits_vals sec key r (i + 1)
    by_cases h : x.s = sec ∧ x.k = key
    · rw [if_pos h, List.filter_cons, if_pos (by simpa using h)]
      simp only [List.map_cons, ih]; rfl
    · rw [if_neg h, List.filter_cons, if_neg (by simpa using h), ih]; rfl
/-- The values that stay, one setting after the other. -/
def stepW (sec key : ByteArray) (acc : List ByteArray) (x : St) : List ByteArray := if x.s = sec ∧ x.k = key then (if x.v = ⟨#[]⟩ then [] else acc ++ [x.v]) else acc
theorem vals_step (sec key : ByteArray) (out : List St) (x : St) : vals sec key (stepR out x) = stepW sec key (vals sec key out) x := by
  unfold stepR stepW vals
  by_cases hv : x.v = ⟨#[]⟩
  · rw [if_pos hv, List.filter_filter]
    by_cases hm : x.s = sec ∧ x.k = key
    · rw [if_pos hm, if_pos hv, ← hm.1, ← hm.2]
      have : (List.filter (fun a => decide (a.s = x.s ∧ a.k = x.k) && !decide (a.s = x.s ∧ a.k = x.k)) out) = [] := by
        rw [List.filter_eq_nil_iff]; intro a _; simp
      rw [this]; rfl
    · rw [if_neg hm]
      congr 1
      refine List.filter_congr (fun y _ => ?_)
      by_cases h : y.s = sec ∧ y.k = key
      · have : ¬ (y.s = x.s ∧ y.k = x.k) := fun e => hm ⟨by rw [← e.1, h.1], by rw [← e.2, h.2]⟩
        simp [this]
      · simp [h]
  · rw [if_neg hv]
    by_cases hm : x.s = sec ∧ x.k = key
    · rw [if_pos hm, if_neg hv, List.filter_append, List.map_append]; simp [hm]
    · rw [if_neg hm, List.filter_append]; simp [hm]
theorem vals_fold (sec key : ByteArray) : ∀ (l out : List St), vals sec key (l.foldl stepR out) = l.foldl (stepW sec key) (vals sec key out)
  | [], _ => rfl
  | x :: r, out => by rw [List.foldl_cons, List.foldl_cons, vals_fold sec key r, vals_step]
theorem lastV_eq : ∀ (h : List (Nat × ByteArray)) (s : ByteArray × Bool), lastV h s = match (h.map Prod.snd).getLast? with | some v => (v, true) | none => s
  | [], s => rfl
  | p :: r, s => by
    rw [lastV, lastV_eq r]
    cases hr : r with
    | nil => rfl
    | cons q t =>
      simp only [List.map_cons]
      rw [List.getLast?_cons_cons]
      cases hl : (q.2 :: List.map Prod.snd t).getLast? with
      | none => simp at hl
      | some v => rfl
end Go.Proofs.YtmoafagemdnifaaDoor
