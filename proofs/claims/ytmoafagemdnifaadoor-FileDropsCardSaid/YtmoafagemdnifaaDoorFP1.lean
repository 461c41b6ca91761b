/- Plain mathematics of printing: what is grouped, printed and counted. -/
import Derived.Test.YtmoafagemdnifaaDoorF11
namespace Go.Proofs.YtmoafagemdnifaaDoor
open Lin
abbrev Tp := ByteArray × ByteArray × ByteArray
def trip (x : St) : Tp := (x.s, x.k, x.v)
abbrev Gt := List (ByteArray × List Tp)
def grpT (gs : Gt) (t : Tp) : Gt := match gs with
  | [] => [(t.1, [t])]
  | g :: r => if g.1 = t.1 then (g.1, g.2 ++ [t]) :: r else g :: grpT r t
def phi (p : ByteArray × List St) : ByteArray × List Tp := (p.1, p.2.map trip)
theorem grp_phi (gs : Gs) (x : St) : (grp gs x).map phi = grpT (gs.map phi) (trip x) := by
  induction gs with
  | nil => rfl
  | cons g r ih =>
    unfold grp
    by_cases h : g.1 = x.s
    · rw [if_pos h]
      have : (phi g).1 = (trip x).1 := h
      simp only [List.map_cons, grpT, if_pos this]
      simp [phi]
    · rw [if_neg h]
      have : ¬ (phi g).1 = (trip x).1 := h
      simp only [List.map_cons, grpT, if_neg this, ih]
theorem foldl_phi : ∀ (l : List St) (gs : Gs), (l.foldl grp gs).map phi = (l.map trip).foldl grpT (gs.map phi)
  | [], gs => rfl
  | x :: r, gs => by simp only [List.foldl_cons, List.map_cons]; rw [foldl_phi r, grp_phi]
def oneT (t : Tp) : L := t.2.1.data.toList ++ [61] ++ t.2.2.data.toList ++ [10]
def secT (g : ByteArray × List Tp) : L := [91] ++ g.1.data.toList ++ [93, 10] ++ g.2.flatMap oneT
theorem flat_trip : ∀ l : List St, l.flatMap oneL = (l.map trip).flatMap oneT
  | [] => rfl
  | x :: r => by simp only [List.flatMap_cons, List.map_cons, flat_trip r]; rfl
theorem prt_phi (gs : Gs) : prt gs = (gs.map phi).flatMap secT := by
  induction gs with
  | nil => rfl
  | cons g r ih =>
    unfold prt at ih ⊢
    simp only [List.flatMap_cons, List.map_cons, ih]
    simp only [secL, secT, phi, flat_trip]
theorem prt_trip {l l' : List St} (h : l.map trip = l'.map trip) : prt (groups l) = prt (groups l') := by
  rw [prt_phi, prt_phi]; unfold groups; rw [foldl_phi, foldl_phi, h]
/-- All settings, section by section. -/
def flatG (gs : Gs) : List St := gs.flatMap (·.2)
theorem flat_perm (gs : Gs) (x : St) : (flatG (grp gs x)).Perm (flatG gs ++ [x]) := by
  induction gs with
  | nil => simp [grp, flatG]
  | cons g r ih =>
    unfold grp
    by_cases h : g.1 = x.s
    · rw [if_pos h]
      simp only [flatG, List.flatMap_cons]
      rw [List.append_assoc, List.append_assoc]
      exact List.Perm.append_left _ List.perm_append_comm
    · rw [if_neg h]
      simp only [flatG, List.flatMap_cons] at ih ⊢
      rw [List.append_assoc]
      exact List.Perm.append_left _ ih
theorem foldl_perm : ∀ (l : List St) (gs : Gs), (flatG (l.foldl grp gs)).Perm (flatG gs ++ l)
  | [], gs => by simp
  | x :: r, gs => by
    rw [List.foldl_cons]
    refine (foldl_perm r _).trans ?_
    have := (flat_perm gs x).append_right r
    simpa using this
theorem groups_perm (l : List St) : (flatG (groups l)).Perm l := by
  have := foldl_perm l []
  simpa [flatG, groups] using this
/-- Each section is there once, with settings of its own. -/
structure Fine (gs : Gs) : Prop where
  nam : (gs.map Prod.fst).Nodup
  own : ∀ p ∈ gs, p.2 ≠ [] ∧ ∀ x ∈ p.2, x.s = p.1
theorem Fine.more {gs : Gs} (h : Fine gs) (x : St) : Fine (grp gs x) := by
  refine ⟨grp_nodup h.nam x, fun p hp => ?_⟩
  obtain ⟨a, ls⟩ := p
  rcases (grp_mem h.nam).1 hp with ⟨rfl, rfl⟩ | ⟨_, h2⟩
  · refine ⟨by simp, fun y hy => ?_⟩
    rcases List.mem_append.1 hy with hy | hy
    · by_cases hm : x.s ∈ gs.map Prod.fst
      · obtain ⟨⟨q, ls⟩, hq, rfl⟩ := List.mem_map.1 hm
        rw [look_mem h.nam hq] at hy
        exact (h.own _ hq).2 y hy
      · rw [look_none hm] at hy; simp at hy
    · simp at hy; rw [hy]
  · exact h.own _ h2
theorem Fine.fold : ∀ (l : List St) (gs : Gs), Fine gs → Fine (l.foldl grp gs)
  | [], _, h => h
  | x :: r, _, h => Fine.fold r _ (h.more x)
theorem groups_fine (l : List St) : Fine (groups l) := Fine.fold l [] ⟨by simp, fun p hp => by simp at hp⟩
theorem grp_last (gs : Gs) (a : ByteArray) (ls : List St) (x : St) (hx : x.s = a) (hn : a ∉ gs.map Prod.fst) : grp (gs ++ [(a, ls)]) x = gs ++ [(a, ls ++ [x])] := by
  induction gs with
  | nil => simp [grp, hx]
  | cons g r ih =>
    simp only [List.map_cons, List.mem_cons, not_or] at hn
    have : ¬ g.1 = x.s := fun e => hn.1 (by rw [← hx, ← e])
    simp only [List.cons_append, grp, if_neg this, ih hn.2]
theorem grp_new (gs : Gs) (x : St) (hn : x.s ∉ gs.map Prod.fst) : grp gs x = gs ++ [(x.s, [x])] := by
  induction gs with
  | nil => rfl
  | cons g r ih =>
    simp only [List.map_cons, List.mem_cons, not_or] at hn
    have : ¬ g.1 = x.s := fun e => hn.1 e.symm
    simp only [grp, if_neg this, List.cons_append, ih hn.2]
theorem fold_last : ∀ (r : List St) (gs : Gs) (a : ByteArray) (ls : List St), (∀ x ∈ r, x.s = a) → a ∉ gs.map Prod.fst → r.foldl grp (gs ++ [(a, ls)]) = gs ++ [(a, ls ++ r)]
  | [], gs, a, ls, _, _ => by simp
  | x :: r, gs, a, ls, h, hn => by
    rw [List.foldl_cons, grp_last gs a ls x (h x (by simp)) hn, fold_last r gs a _ (fun y hy => h y (by simp [hy])) hn]
    simp
theorem regroup : ∀ (gs acc : Gs), Fine (acc ++ gs) → (flatG gs).foldl grp acc = acc ++ gs
  | [], acc, _ => by simp [flatG]
  | (a, ls) :: r, acc, h => by
    have h1 := h.own (a, ls) (by simp)
    have hn : a ∉ acc.map Prod.fst := by
      have := h.nam
      rw [List.map_append, List.nodup_append] at this
      exact fun hm => this.2.2 a hm a (by simp) rfl
    obtain ⟨x, t, rfl⟩ := List.exists_cons_of_ne_nil h1.1
    have hx : x.s = a := h1.2 x (by simp)
    have hf : flatG ((a, x :: t) :: r) = x :: (t ++ flatG r) := by simp [flatG]
    rw [hf, List.foldl_cons, grp_new acc x (by rw [hx]; exact hn), List.foldl_append, hx, fold_last t acc a [x] (fun y hy => h1.2 y (by simp [hy])) hn]
    have := regroup r (acc ++ [(a, [x] ++ t)]) (by simpa using h)
    rw [this]; simp
theorem regroup_groups (l : List St) : groups (flatG (groups l)) = groups l := by
  have := regroup (groups l) [] (by simpa using groups_fine l)
  simpa [groups] using this
/-- What is printed and read again is printed so again. -/
theorem prt_again {f g : List St} (h : g.map trip = (flatG (groups f)).map trip) : prt (groups g) = prt (groups f) := by rw [prt_trip h, regroup_groups]
theorem len_again {f g : List St} (h : g.map trip = (flatG (groups f)).map trip) : g.length = f.length := by
  have h1 := congrArg List.length h
  rw [List.length_map, List.length_map] at h1
  rw [h1, (groups_perm f).length_eq]
/-- The same section, key and value. -/
def sameT (y x : St) : Bool := decide (x.s = y.s) && decide (x.k = y.k) && decide (x.v = y.v)
theorem countP_trip (p : Tp → Bool) : ∀ l : List St, l.countP (fun x => p (trip x)) = (l.map trip).countP p
  | [] => rfl
  | x :: r => by simp only [List.countP_cons, List.map_cons, countP_trip p r]
theorem count_again {f g : List St} (h : g.map trip = (flatG (groups f)).map trip) (y : St) : g.countP (sameT y) = f.countP (sameT y) := by
  have e := fun l : List St => countP_trip (fun t : Tp => decide (t.1 = y.s) && decide (t.2.1 = y.k) && decide (t.2.2 = y.v)) l
  have e1 : g.countP (sameT y) = (g.map trip).countP _ := e g
  have e2 : (flatG (groups f)).countP (sameT y) = ((flatG (groups f)).map trip).countP _ := e _
  rw [e1, h, ← e2, (groups_perm f).countP_eq]
end Go.Proofs.YtmoafagemdnifaaDoor
