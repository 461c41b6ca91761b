import Derived.Test.YtiinhfbfciccnaaDoorYG
import Derived.Test.YtiinhfbfciccnaaDoorYE
import Derived.Test.YtiinhfbfciccnaaDoorYF
/- Plain mathematics of printing: what is grouped, printed and counted. -/
namespace Go.Proofs.YtiinhfbfciccnaaDoor
open Lin
abbrev Tp := ByteArray × ByteArray × ByteArray
def trip (x : St) : Tp := (x.s, x.k, x.v)
abbrev Gt := List (ByteArray × List Tp)
def grpT (gs : Gt) (t : Tp) : Gt := match gs with
  | [] => [(t.1, [t])]
  | g :: r => if g.1 = t.1 then (g.1, g.2 ++ [t]) :: r else g :: grpT r t
def phi (p : ByteArray × List St) : ByteArray × List Tp := (p.1, p.2.map trip)
theorem grp_phi (gs : Gs) (x : St) : (grp gs x).map phi = grpT (gs.map phi) (trip x) := by
  induction gs with
  | nil => rfl
  | cons g r ih =>
    unfold grp
    by_cases h : g.1 = x.s
    · rw [if_pos h]
      have : (phi g).1 = (trip x).1 := h
      simp only [List.map_cons, grpT, if_pos this]
      simp [phi]
    · rw [if_neg h]
      have : ¬ (phi g).1 = (trip x).1 := h
      simp only [List.map_cons, grpT, if_neg this, ih]
theorem foldl_phi : ∀ (l : List St) (gs : Gs), (l.foldl grp gs).map phi = (l.map trip).foldl grpT (gs.map phi)
  | [], gs => rfl
  | x :: r, gs => by simp only [List.foldl_cons, List.map_cons]; rw [foldl_phi r, grp_phi]
def oneT (t : Tp) : L := t.2.1.data.toList ++ [61] ++ t.2.2.data.toList ++ [10]
def secT (g : ByteArray × List Tp) : L := [91] ++ g.1.data.toList ++ [93, 10] ++ g.2.flatMap oneT
theorem flat_trip : ∀ l : List St, l.flatMap oneL = (l.map trip).flatMap oneT
  | [] => rfl
  | x :: r => by simp only [List.flatMap_cons, List.map_cons, flat_trip r]; rfl
theorem prt_phi (gs : Gs) : prt gs = (gs.map phi).flatMap secT := by
  induction gs with
  | nil => rfl
  | cons g r ih =>
    unfold prt at ih ⊢
    simp only [List.flatMap_cons, List.map_cons, ih]
    simp only [secL, secT, phi, flat_trip]
theorem prt_trip {l l' : List St} (h : l.map trip = l'.map trip) : prt (groups l) = prt (groups l') := by
  rw [prt_phi, prt_phi]; unfold groups; rw [foldl_phi, foldl_phi, h]
/-- All settings, section by section. -/
def flatG (gs : Gs) : List St := gs.flatMap (·.2)
theorem flat_perm (gs : Gs) (x : St) : (flatG (grp gs x)).Perm (flatG gs ++ [x]) := by
  induction gs with
  | nil => simp [grp, flatG]
  | cons g r ih =>
    unfold grp
    by_cases h : g.1 = x.s
    · rw [if_pos h]
      simp only [flatG, List.flatMap_cons]
      rw [List.append_assoc, List.append_assoc]
      exact List.Perm.append_left _ List.perm_append_comm
    · rw [if_neg h]
      simp only [flatG, List.flatMap_cons] at ih ⊢
      rw [List.append_assoc]
      exact List.Perm.append_left _ ih
theorem foldl_perm : ∀ (l : List St) (gs : Gs), (flatG (l.foldl grp gs)).Perm (flatG gs ++ l)
  | [], gs => by simp
  | x :: r, gs => by
    rw [List.foldl_cons]
    refine (foldl_perm r _).trans ?_
    have := (flat_perm gs x).append_right r
    simpa using this
theorem groups_perm (l : List St) : (flatG (groups l)).Perm l := by
  have := foldl_perm l []
  simpa [flatG, groups] using this
/-- Each section is there once, with settings of its own. -/
structure Fine (gs : Gs) : Prop where
  nam : (gs.map Prod.fst).Nodup
  own : ∀ p ∈ gs, p.2 ≠ [] ∧ ∀ x ∈ p.2, x.s = p.1
theorem Fine.more {gs : Gs} (h : Fine gs) (x : St) : Fine (grp gs x) := by
  refine ⟨grp_nodup h.nam x, fun p hp => ?_⟩
  obtain ⟨a, ls⟩ := p
  rcases (grp_mem h.nam).1 hp with ⟨rfl, rfl⟩ | ⟨_, h2⟩
  · refine ⟨by simp, fun y hy => ?_⟩
    rcases List.mem_append.1 hy with hy | hy
    · by_cases hm : x.s ∈ gs.map Prod.fst
      · obtain ⟨⟨q, ls⟩, hq, rfl⟩ := List.mem_map.1 hm
        rw [look_mem h.nam hq] at hy
        exact (h.own _ hq).2 y hy
      · rw [look_none hm] at hy; simp at hy
    · simp at hy; rw [hy]
  · exact h.own _ h2
theorem Fine.fold : ∀ (l : List St) (gs : Gs), Fine gs → Fine (l.foldl grp gs)
  | [], _, h => h
  | x :: r, _, h => Fine.fold r _ (h.more x)
theorem groups_fine (l : List St) : Fine (groups l) := Fine.fold l [] ⟨by simp, fun p hp => by simp at hp⟩
theorem grp_last (gs : Gs) (a : ByteArray) (ls : List St) (x : St) (hx : x.s = a) (hn : a ∉ gs.map Prod.fst) : grp (gs ++ [(a, ls)]) x = gs ++ [(a, ls ++ [x])] := by
  induction gs with
  | nil => simp [grp, hx]
  | cons g r ih =>
    simp only [List.map_cons, List.mem_cons, not_or] at hn
    have : ¬ g.1 = x.s := fun e => hn.1 (by rw [← hx, ← e])
    simp only [List.cons_append, grp, if_neg this, ih hn.2]
theorem grp_new (gs : Gs) (x : St) (hn : x.s ∉ gs.map Prod.fst) : grp gs x = gs ++ [(x.s, [x])] := by
  induction gs with
  | nil => rfl
  | cons g r ih =>
    simp only [List.map_cons, List.mem_cons, not_or] at hn
    have : ¬ g.1 = x.s := fun e => hn.1 e.symm
    simp only [grp, if_neg this, List.cons_append, ih hn.2]
theorem fold_last : ∀ (r : List St) (gs : Gs) (a : ByteArray) (ls : List St), (∀ x ∈ r, x.s = a) → a ∉ gs.map Prod.fst → r.foldl grp (gs ++ [(a, ls)]) = gs ++ [(a, ls ++ r)]
  | [], gs, a, ls, _, _ => by simp
  | x :: r, gs, a, ls, h, hn => by
    rw [List.foldl_cons, grp_last gs a ls x (h x (by simp)) hn, fold_last r gs a _ (fun y hy => h y (by simp [hy])) hn]
    simp
theorem regroup : ∀ (gs acc : Gs), Fine (acc ++ gs) → (flatG gs).foldl grp acc = acc ++ gs
  | [], acc, _ => by simp [flatG]
  | (a, ls) :: r, acc, h => by
    have h1 := h.own (a, ls) (by simp)
    have hn : a ∉ acc.map Prod.fst := by
      have := h.nam
      rw [List.map_append, List.nodup_append] at this
      exact fun hm => this.2.2 a hm a (by simp) rfl
    obtain ⟨x, t, rfl⟩ := List.exists_cons_of_ne_nil h1.1
    have hx : x.s = a := h1.2 x (by simp)
    have hf : flatG ((a, x :: t) :: r) = x :: (t ++ flatG r) := by simp [flatG]
    rw [hf, List.foldl_cons, grp_new acc x (by rw [hx]; exact hn), List.foldl_append, hx, fold_last t acc a [x] (fun y hy => h1.2 y (by simp [hy])) hn]
    have := regroup r (acc ++ [(a, [x] ++ t)]) (by simpa using h)
    rw [this]; simp
theorem regroup_groups (l : List St) : groups (flatG (groups l)) = groups l := by
  have := regroup (groups l) [] (by simpa using groups_fine l)
  simpa [groups] using this
/-- What is printed and read again is printed so again. -/
theorem prt_again {f g : List St} (h : g.map trip = (flatG (groups f)).map trip) : prt (groups g) = prt (groups f) := by rw [prt_trip h, regroup_groups]
theorem len_again {f g : List St} (h : g.map trip = (flatG (groups f)).map trip) : g.length = f.length := by
  have h1 := congrArg List.length h
  rw [List.length_map, List.length_map] at h1
  rw [h1, (groups_perm f).length_eq]
/-- The same section, key and value. -/
def sameT (y x : St) : Bool := decide (x.s = y.s) && decide (x.k = y.k) && decide (x.v = y.v)
theorem countP_trip (p : Tp → Bool) : ∀ l : List St, l.countP (fun x => p (trip x)) = (l.map trip).countP p
  | [] => rfl
  | x :: r => by simp only [List.countP_cons, List.map_cons, countP_trip p r]
theorem count_again {f g : List St} (h : g.map trip = (flatG (groups f)).map trip) (y : St) : g.countP (sameT y) = f.countP (sameT y) := by
  have e := fun l : List St => countP_trip (fun t : Tp => decide (t.1 = y.s) && decide (t.2.1 = y.k) && decide (t.2.2 = y.v)) l
  have e1 : g.countP (sameT y) = (g.map trip).countP _ := e g
  have e2 : (flatG (groups f)).countP (sameT y) = ((flatG (groups f)).map trip).countP _ := e _
  rw [e1, h, ← e2, (groups_perm f).countP_eq]
end Go.Proofs.YtiinhfbfciccnaaDoor
/- Plain mathematics: lines with notes, blanks and continued lines between; their numbers. -/
namespace Go.Proofs.YtiinhfbfciccnaaDoor.Lin
def dg (n : Nat) : L := if n < 10 then [UInt8.ofNat (48 + n)] else [UInt8.ofNat (48 + n / 10), UInt8.ofNat (48 + n % 10)]
theorem dg_one {u : Nat} (h : u < 10) : dg u = [UInt8.ofNat (48 + u % 10)] := by unfold dg; rw [if_pos h, Nat.mod_eq_of_lt h]
theorem dg_step {u : Nat} (h : ¬ u < 10) (h2 : u ≤ 40) : dg u = dg (u / 10) ++ [UInt8.ofNat (48 + u % 10)] := by
  rw [dg_one (u := u / 10) (by omega)]
  unfold dg
  rw [if_neg h, Nat.mod_eq_of_lt (a := u / 10) (by omega)]; rfl
theorem dg_len (n : Nat) : (dg n).length ≤ 2 := by unfold dg; split <;> simp
theorem dg_al (n : Nat) (h : n ≤ 40) : ∀ c ∈ dg n, al c = true := by
  have : ∀ m : Fin 41, ∀ c ∈ dg m.val, al c = true := by decide
  exact this ⟨n, by omega⟩
/-- What stands ahead of a setting, and behind it. -/
def gpre (g : Nat) : L := if g = 1 then [35, 32, 110, 111, 116, 101, 10] else if g = 2 then [32, 9, 10, 59, 10] else []
def gN (g : Nat) : Nat := if g = 1 then 1 else if g = 2 then 2 else 0
def gpost (g : Nat) : L := if g = 3 then [32, 92, 10, 32, 98] else []
def gC (g : Nat) : Nat := if g = 3 then 1 else 0
def gval (g : Nat) : L := if g = 3 then [97, 32, 32, 32, 98] else [97]
def blk (g : Nat) (d : L) : L := gpre g ++ (107 :: (d ++ [61, 97] ++ gpost g ++ [10]))
theorem blk_len (g : Nat) (d : L) (h : d.length ≤ 2) : (blk g d).length ≤ 18 := by
  unfold blk gpre gpost
  split <;> (try split) <;> (try split) <;> simp <;> omega
theorem al_facts {c : UInt8} (h : al c = true) : c ≠ 10 ∧ c ≠ 61 ∧ c ≠ 92 ∧ bl c = false := by
  refine ⟨?_, ?_, ?_, (bl_no c).2 ⟨?_, ?_⟩⟩ <;> (rintro rfl; revert h; decide)
theorem trim_id {x : L} (h1 : ∀ c r, x = c :: r → bl c = false) (h2 : ∀ a c, x = a ++ [c] → bl c = false) : trim x = x := by
  rw [trim_def, trimR_id h2]
  cases x with
  | nil => rfl
  | cons c r => exact trimL_word c r (h1 c r rfl)
theorem prs_kv {d v : L} (hd : ∀ c ∈ d, al c = true) (hv : ∀ a c, v = a ++ [c] → bl c = false) (hv1 : ∀ c r, v = c :: r → bl c = false) (hne : v ≠ []) : prs (107 :: (d ++ 61 :: v)) = some (2, 107 :: d, v) := by
  have hk : ∀ c ∈ (107 :: d : L), al c = true := fun c hc => by
    rcases List.mem_cons.1 hc with rfl | h
    · decide
    · exact hd c h
  have ht : trim (107 :: (d ++ 61 :: v)) = 107 :: (d ++ 61 :: v) := by
    refine trim_id (fun c r e => by cases e; decide) (fun a c e => ?_)
    rcases List.eq_nil_or_concat v with rfl | ⟨b, e', rfl⟩
    · exact absurd rfl hne
    · have h3 : a ++ [c] = (107 :: (d ++ 61 :: b)) ++ [e'] := by rw [← e]; simp
      have := (List.append_inj' h3 rfl).2
      have hce : c = e' := by simpa using this
      rw [hce]
      exact hv b e' (by simp)
  have hb : brk (trim (107 :: (d ++ 61 :: v))) = false := by
    rw [ht]
    exact brk_no (.inr (.inl (by simp)))
  rw [prs_eq hb (a := 107 :: d) (b := v) (by rw [ht]; simp) (fun x hx => (al_facts (hk x hx)).2.1)]
  have e1 : trim (107 :: d) = 107 :: d := trim_id (fun c r e => by cases e; decide) (fun a c e => (al_facts (hk c (by rw [e]; simp))).2.2.2)
  have e2 : trim v = v := trim_id hv1 hv
  have e3 : made al (107 :: d) = true := by
    unfold made
    rw [List.all_eq_true.2 hk]; rfl
  rw [e1, e2, e3]; rfl
def gtxt (g : Nat) (d : L) : L := 107 :: (d ++ 61 :: gval g)
theorem gtxt_prs (g : Nat) (d : L) (hd : ∀ c ∈ d, al c = true) : prs (gtxt g d) = some (2, 107 :: d, gval g) := by
  refine prs_kv hd (fun a c h => ?_) (fun c r h => ?_) ?_
  · unfold gval at h
    split at h
    · have h3 : a ++ [c] = [97, 32, 32, 32] ++ [98] := h.symm
      have := (List.append_inj' h3 rfl).2
      have : c = 98 := by simpa using this
      rw [this]; decide
    · have h3 : a ++ [c] = [] ++ [97] := h.symm
      have := (List.append_inj' h3 rfl).2
      have : c = 97 := by simpa using this
      rw [this]; decide
  · unfold gval at h
    split at h <;> (cases h; decide)
  · unfold gval; split <;> simp
/-- One setting, with what stands around it. -/
theorem whl_blk (n g : Nat) (d T : L) (hd : ∀ c ∈ d, al c = true) : whl n 0 [] (pieces (blk g d ++ T)) = (n + gN g + 1, gtxt g d) :: whl (n + gN g + 1 + gC g) 0 [] (pieces T) := by
  have n10 : ∀ (y : L), (∀ c ∈ y, c ≠ 10) → ∀ c ∈ (107 :: (d ++ [61, 97] ++ y) : L), c ≠ 10 := fun y hy c hc => by
    rcases List.mem_cons.1 hc with rfl | h
    · decide
    · rcases List.mem_append.1 h with h | h
      · rcases List.mem_append.1 h with h | h
        · exact (al_facts (hd c h)).1
        · simp at h; rcases h with rfl | rfl <;> decide
      · exact hy c h
  have hlo : ∀ y : L, lout (107 :: y) = false := fun y => by
    unfold lout
    rw [trimL_word _ _ (by decide)]; rfl
  have suf97 : ∀ (a : L), Lib.hasSuffix (a ++ [97]) [92] = false := fun a => by
    rw [← Bool.not_eq_true, suf_iff]; simp
  have core : ∀ m, whl m 0 [] (pieces (107 :: (d ++ [61, 97] ++ gpost g ++ [10]) ++ T)) = (m + 1, gtxt g d) :: whl (m + 1 + gC g) 0 [] (pieces T) := by
    intro m
    by_cases h3 : g = 3
    · subst h3
      have e0 : (107 :: (d ++ [61, 97] ++ gpost 3 ++ [10]) ++ T : L) = (107 :: (d ++ [61, 97] ++ [32, 92])) ++ 10 :: ([32, 98] ++ 10 :: T) := by simp [gpost]
      have e1 : (107 :: (d ++ [61, 97] ++ [32, 92]) : L) = (107 :: (d ++ [61, 97] ++ [32])) ++ [92] := by simp
      rw [e0, pieces_split _ _ (n10 [32, 92] (by decide)), pieces_split _ _ (by decide)]
      have hl1 : lout ((107 :: (d ++ [61, 97] ++ [32])) ++ [92]) = false := hlo _
      rw [e1, whl_on0 m [] _ _ hl1 (suf92 _), trim92, whl_end (m + 1) (m + 1) _ _ _ (by omega) (by decide)]
      simp [gtxt, gval, gC]
    · have e0 : (107 :: (d ++ [61, 97] ++ gpost g ++ [10]) ++ T : L) = (107 :: (d ++ [61, 97] ++ [])) ++ 10 :: T := by simp [gpost, h3]
      have e1 : (107 :: (d ++ [61, 97] ++ []) : L) = (107 :: (d ++ [61])) ++ [97] := by simp
      rw [e0, pieces_split _ _ (n10 [] (by simp)), whl_end0 m [] _ _ (hlo _) (by rw [e1]; exact suf97 _)]
      simp [gtxt, gval, gC, h3]
  unfold blk
  by_cases h1 : g = 1
  · have e0 : (gpre g ++ (107 :: (d ++ [61, 97] ++ gpost g ++ [10])) ++ T : L) = [35, 32, 110, 111, 116, 101] ++ 10 :: ((107 :: (d ++ [61, 97] ++ gpost g ++ [10])) ++ T) := by simp [gpre, h1]
    rw [e0, pieces_split _ _ (by decide), whl_out _ _ _ _ (by decide), core]
    simp [gN, h1]
  · by_cases h2 : g = 2
    · have e0 : (gpre g ++ (107 :: (d ++ [61, 97] ++ gpost g ++ [10])) ++ T : L) = [32, 9] ++ 10 :: ([59] ++ 10 :: ((107 :: (d ++ [61, 97] ++ gpost g ++ [10])) ++ T)) := by simp [gpre, h2]
      rw [e0, pieces_split _ _ (by decide), pieces_split _ _ (by decide), whl_out _ _ _ _ (by decide), whl_out _ _ _ _ (by decide), core]
      simp [gN, h2]
    · have e0 : (gpre g ++ (107 :: (d ++ [61, 97] ++ gpost g ++ [10])) ++ T : L) = (107 :: (d ++ [61, 97] ++ gpost g ++ [10])) ++ T := by simp [gpre, h1, h2]
      rw [e0, core]
      simp [gN, h1, h2]
variable (gv : Nat → Nat)
/-- The line where block i begins. -/
def aw : Nat → Nat
  | 0 => 2
  | i + 1 => aw i + gN (gv i) + 1 + gC (gv i)
theorem aw_pos : ∀ i, 2 ≤ aw gv i
  | 0 => Nat.le_refl _
  | i + 1 => by have := aw_pos i; simp only [aw]; omega
theorem aw_le : ∀ i, aw gv i ≤ 2 + 4 * i
  | 0 => by simp [aw]
  | i + 1 => by
    have := aw_le i
    have h1 : gN (gv i) ≤ 2 := by unfold gN; split <;> (try split) <;> omega
    have h2 : gC (gv i) ≤ 1 := by unfold gC; split <;> omega
    simp only [aw]; omega
def ent (i : Nat) : Ln := (2, 107 :: dg i, gval (gv i), aw gv i + gN (gv i))
def txt (i m : Nat) : L := (List.range' i m).flatMap fun j => blk (gv j) (dg j)
theorem txt_snoc (k : Nat) : txt gv 0 (k + 1) = txt gv 0 k ++ blk (gv k) (dg k) := by unfold txt; rw [List.range'_concat]; simp
theorem txt_len : ∀ k, (txt gv 0 k).length ≤ 18 * k
  | 0 => by simp [txt]
  | k + 1 => by
    have := txt_len k
    have h2 := blk_len (gv k) (dg k) (dg_len k)
    rw [txt_snoc, List.length_append]; omega
theorem lns_txt : ∀ (m i : Nat), i + m ≤ 40 → lnsW (whl (aw gv i - 1) 0 [] (pieces (txt gv i m))) = .ok ((List.range' i m).map (ent gv))
  | 0, i, _ => by
    have : pieces (txt gv i 0) = [[]] := rfl
    rw [this, whl_out _ _ _ _ (by decide)]
    simp [whl, lnsW]
  | m + 1, i, h => by
    have ih := lns_txt m (i + 1) (by omega)
    have e : txt gv i (m + 1) = blk (gv i) (dg i) ++ txt gv (i + 1) m := by unfold txt; rw [List.range'_succ]; rfl
    have hp := aw_pos gv i
    have e2 : aw gv i - 1 + gN (gv i) + 1 + gC (gv i) = aw gv (i + 1) - 1 := by simp only [aw]; omega
    have e3 : aw gv i - 1 + gN (gv i) + 1 = aw gv i + gN (gv i) := by omega
    have hl : ¬ 400 < (gtxt (gv i) (dg i)).length := by
      have := dg_len i
      unfold gtxt gval
      split <;> simp <;> omega
    rw [e, whl_blk _ _ _ _ (dg_al i (by omega)), e2, e3]
    simp only [lnsW, if_neg hl, gtxt_prs _ _ (dg_al i (by omega)), ih]
    rw [List.range'_succ]; rfl
theorem lns_numbers (n : Nat) (h : n ≤ 40) : lns ([91, 65, 93, 10] ++ txt gv 0 n) = .ok ((1, [65], [], 1) :: (List.range' 0 n).map (ent gv)) := by
  have hl := txt_len gv n
  have e0 : ([91, 65, 93, 10] ++ txt gv 0 n : L) = [91, 65, 93] ++ 10 :: txt gv 0 n := by simp
  have p1 : prs [91, 65, 93] = some (1, [65], []) := by decide +kernel
  unfold lns
  rw [if_neg (by simp; omega), e0, pieces_split _ _ (by decide), whl_end0 0 [] [91, 65, 93] _ (by decide) (by decide)]
  have := lns_txt gv n 0 (by omega)
  have e1 : aw gv 0 - 1 = 1 := rfl
  rw [e1] at this
  simp only [lnsW, List.nil_append, p1, this]
  rfl
end Go.Proofs.YtiinhfbfciccnaaDoor.Lin
/- Plain mathematics of printing: what is printed is read again. -/
namespace Go.Proofs.YtiinhfbfciccnaaDoor
open Lin
/-- A key. -/
def GoodK (k : L) : Prop := made al k = true ∧ k.length ≤ 400
/-- A section's name; a setting, as they can be printed. -/
def GoodN (n : L) : Prop := made sc n = true ∧ n.length + 2 ≤ 400
structure GoodV (v : L) : Prop where
  len : v.length ≤ 400
  nl : ∀ c ∈ v, c ≠ 10
  hd : ∀ c r, v = c :: r → bl c = false
  lt : ∀ a c, v = a ++ [c] → bl c = false
theorem made_iff {p : UInt8 → Bool} {l : L} (h : made p l = true) : (∀ c ∈ l, p c = true) ∧ l ≠ [] := by
  unfold made at h
  simp only [Bool.and_eq_true, List.all_eq_true, Bool.not_eq_true', beq_eq_false_iff_ne] at h
  exact h
theorem last_app {a b v : L} {c : UInt8} (e : b ++ v = a ++ [c]) (hv : v ≠ []) : ∃ a', v = a' ++ [c] := by
  rcases List.eq_nil_or_concat v with rfl | ⟨d, e', rfl⟩
  · exact absurd rfl hv
  · have h3 : a ++ [c] = (b ++ d) ++ [e'] := by rw [← e]; simp
    have := (List.append_inj' h3 rfl).2
    have hce : c = e' := by simpa using this
    exact ⟨d, by rw [hce]; simp⟩
theorem prs_set' {k v : L} (hk : made al k = true) (hv : GoodV v) : prs (k ++ 61 :: v) = some (2, k, v) := by
  obtain ⟨ha, hne⟩ := made_iff hk
  obtain ⟨c0, r0, rfl⟩ := List.exists_cons_of_ne_nil hne
  have h0 := al_facts (ha c0 (by simp))
  have ht : trim (c0 :: r0 ++ 61 :: v) = c0 :: r0 ++ 61 :: v := by
    refine trim_id (fun c r e => ?_) (fun a c e => ?_)
    · simp only [List.cons_append, List.cons.injEq] at e; rw [← e.1]; exact h0.2.2.2
    · by_cases hvn : v = []
      · subst hvn
        have := (List.append_inj' (s₁ := c0 :: r0) (t₁ := [61]) e rfl).2
        simp at this; rw [← this]; decide
      · obtain ⟨a', ha'⟩ := last_app (b := c0 :: r0 ++ [61]) (by simpa using e) hvn
        exact hv.lt a' c ha'
  have hb : brk (trim (c0 :: r0 ++ 61 :: v)) = false := by
    rw [ht]
    refine brk_no (.inr (.inl ?_))
    simp only [List.cons_append, List.head?_cons, ne_eq, Option.some.injEq]
    rintro rfl
    have := ha 91 (by simp)
    revert this; decide
  rw [prs_eq hb (a := c0 :: r0) (b := v) ht (fun x hx => (al_facts (ha x hx)).2.1)]
  have e1 : trim (c0 :: r0) = c0 :: r0 := trim_id (fun c r e => by cases e; exact h0.2.2.2) (fun a c e => (al_facts (ha c (by rw [e]; simp))).2.2.2)
  have e2 : trim v = v := trim_id hv.hd hv.lt
  rw [e1, e2, hk]; rfl
theorem prs_sec' {n : L} (h : made sc n = true) : prs ([91] ++ n ++ [93]) = some (1, n, []) := by
  have ht : trim ([91] ++ n ++ [93]) = [91] ++ n ++ [93] := by
    refine trim_id (fun c r e => ?_) (fun a c e => ?_)
    · simp only [List.cons_append, List.nil_append, List.cons.injEq] at e; rw [← e.1]; decide
    · have := (List.append_inj' e rfl).2
      simp at this; rw [← this]; decide
  have hb : brk (trim ([91] ++ n ++ [93])) = true := by
    rw [ht]
    unfold brk
    have e : ([91] ++ n ++ [93] : L).getLast? = some 93 := by rw [List.getLast?_append]; rfl
    rw [e]
    simp
  have e : ((([91] ++ n ++ [93] : L)).drop 1).take (([91] ++ n ++ [93] : L).length - 2) = n := by simp
  rw [prs_brk hb, ht, e, h]; rfl
theorem no_suf {l : L} (h : ∀ a c, l = a ++ [c] → c ≠ 92) : Lib.hasSuffix l [92] = false := by
  rw [Bool.eq_false_iff]
  intro hs
  rw [suf_iff, List.getLast?_eq_some_iff] at hs
  obtain ⟨a, ha⟩ := hs
  exact h a 92 ha rfl
theorem lout_first {c : UInt8} {r : L} (h1 : bl c = false) (h2 : c ≠ 35) (h3 : c ≠ 59) : lout (c :: r) = false := by
  unfold lout
  rw [trimL_word c r h1]
  simp [h2, h3]
/-- A setting that can be printed. -/
structure GoodX (x : St) : Prop where
  key : made al x.k.data.toList = true
  val : GoodV x.v.data.toList
  bs : ∀ a c, x.v.data.toList = a ++ [c] → c ≠ 92
  len : x.k.size + x.v.size ≤ 399
theorem whl_set {x : St} (h : GoodX x) (n : Nat) (R : L) : whl n 0 [] (pieces (oneL x ++ R)) = (n + 1, x.k.data.toList ++ 61 :: x.v.data.toList) :: whl (n + 1) 0 [] (pieces R) := by
  obtain ⟨ha, hne⟩ := made_iff h.key
  have e : oneL x ++ R = (x.k.data.toList ++ 61 :: x.v.data.toList) ++ 10 :: R := by simp [oneL]
  rw [e, pieces_split _ _ (fun c hc => ?_)]
  · rw [whl_end0 n [] _ _ ?_ ?_]
    · rfl
    · obtain ⟨c0, r0, hk0⟩ := List.exists_cons_of_ne_nil hne
      rw [hk0]
      have h0 := ha c0 (by rw [hk0]; simp)
      refine lout_first (al_facts h0).2.2.2 ?_ ?_ <;> (rintro rfl; revert h0; decide)
    · refine no_suf (fun a c e => ?_)
      by_cases hv : x.v.data.toList = []
      · rw [hv] at e
        have := (List.append_inj' (s₁ := x.k.data.toList) (t₁ := [61]) e rfl).2
        simp at this; rw [← this]; decide
      · obtain ⟨a', ha'⟩ := last_app (b := x.k.data.toList ++ [61]) (by simpa using e) hv
        exact h.bs a' c ha'
  · rcases List.mem_append.1 hc with hc | hc
    · exact (al_facts (ha c hc)).1
    · rcases List.mem_cons.1 hc with rfl | hc
      · decide
      · exact h.val.nl c hc
theorem whl_sec {nm : L} (h : GoodN nm) (n : Nat) (R : L) : whl n 0 [] (pieces ([91] ++ nm ++ [93, 10] ++ R)) = (n + 1, [91] ++ nm ++ [93]) :: whl (n + 1) 0 [] (pieces R) := by
  obtain ⟨ha, hne⟩ := made_iff h.1
  have e : [91] ++ nm ++ [93, 10] ++ R = ([91] ++ nm ++ [93]) ++ 10 :: R := by simp
  rw [e, pieces_split _ _ (fun c hc => ?_)]
  · rw [whl_end0 n [] _ _ ?_ ?_]
    · rfl
    · exact lout_first (by decide) (by decide) (by decide)
    · refine no_suf (fun a c e => ?_)
      have := (List.append_inj' e rfl).2
      simp at this; rw [← this]; decide
  · simp only [List.mem_append, List.mem_cons, List.not_mem_nil, or_false] at hc
    rcases hc with (rfl | hc) | rfl
    · decide
    · rintro rfl; have := ha 10 hc; revert this; decide
    · decide
/-- What the lines that are printed are read as. -/
theorem read_sets (nm : ByteArray) (hne : nm ≠ ⟨#[]⟩) : ∀ (ls : List St) (n : Nat) (R : L) (l : List Ln), (∀ x ∈ ls, GoodX x) → (∀ m, n ≤ m → True) → lnsW (whl (n + ls.length) 0 [] (pieces R)) = .ok l →
    ∃ l', lnsW (whl n 0 [] (pieces (ls.flatMap oneL ++ R))) = .ok l' ∧ ∀ acc, ∃ g, g.map trip = ls.map (fun x => (nm, x.k, x.v)) ∧ pf nm acc l' = pf nm (acc ++ g) l
  | [], n, R, l, _, _, h => ⟨l, by simpa using h, fun acc => ⟨[], rfl, by simp⟩⟩
  | x :: r, n, R, l, hg, hm, h => by
    have hx := hg x (by simp)
    obtain ⟨l', h1, h2⟩ := read_sets nm hne r (n + 1) R l (fun y hy => hg y (by simp [hy])) (fun _ _ => trivial) (by rw [List.length_cons, ← Nat.add_assoc] at h; rw [show n + 1 + r.length = n + r.length + 1 by omega]; exact h)
    have hlen : ¬ 400 < (x.k.data.toList ++ 61 :: x.v.data.toList).length := by
      have := hx.len
      simp only [List.length_append, List.length_cons, size_list]; omega
    refine ⟨(2, x.k.data.toList, x.v.data.toList, n + 1) :: l', ?_, fun acc => ?_⟩
    · rw [List.flatMap_cons, List.append_assoc, whl_set hx]
      simp only [lnsW, if_neg hlen, prs_set' hx.key hx.val, h1]
    · obtain ⟨g, hg1, hg2⟩ := h2 (acc ++ [⟨nm, x.k, x.v, ((n + 1 : Nat) : Int)⟩])
      refine ⟨⟨nm, x.k, x.v, ((n + 1 : Nat) : Int)⟩ :: g, by simp [trip, hg1], ?_⟩
      rw [pf_set (show (2 : Nat) ≠ 1 by decide) hne]
      simp only [Lib.mk_data]
      rw [hg2]; simp
theorem read_prt : ∀ (gs : Gs) (n : Nat), (∀ p ∈ gs, GoodN p.1.data.toList ∧ ∀ x ∈ p.2, GoodX x) →
    ∃ l', lnsW (whl n 0 [] (pieces (prt gs))) = .ok l' ∧ ∀ sec acc, ∃ g, g.map trip = gs.flatMap (fun p => p.2.map (fun x => (p.1, x.k, x.v))) ∧ pf sec acc l' = .ok (acc ++ g)
  | [], n, _ => ⟨[], rfl, fun sec acc => ⟨[], rfl, by simp [pf]⟩⟩
  | (nm, ls) :: r, n, h => by
    obtain ⟨hn, hx⟩ := h (nm, ls) (by simp)
    simp only at hn hx
    obtain ⟨_, hne⟩ := made_iff hn.1
    have hne' : nm ≠ ⟨#[]⟩ := fun e => hne (by rw [e])
    obtain ⟨l, h1, h2⟩ := read_prt r (n + 1 + ls.length) (fun p hp => h p (by simp [hp]))
    obtain ⟨l', h3, h4⟩ := read_sets nm hne' ls (n + 1) (prt r) l hx (fun _ _ => trivial) h1
    have hlen : ¬ 400 < ([91] ++ nm.data.toList ++ [93] : L).length := by
      have := hn.2
      simp only [List.length_append, List.length_cons, List.length_nil]; omega
    refine ⟨(1, nm.data.toList, [], n + 1) :: l', ?_, fun sec acc => ?_⟩
    · have e : prt ((nm, ls) :: r) = [91] ++ nm.data.toList ++ [93, 10] ++ (ls.flatMap oneL ++ prt r) := by simp [prt, secL]
      rw [e, whl_sec hn]
      simp only [lnsW, if_neg hlen, prs_sec' hn.1, h3]
    · obtain ⟨g1, e1, e2⟩ := h4 acc
      obtain ⟨g2, e3, e4⟩ := h2 nm (acc ++ g1)
      refine ⟨g1 ++ g2, by simp [e1, e3], ?_⟩
      rw [pf_sec rfl]
      simp only [Lib.mk_data]
      rw [e2, e4]; simp
/-- What is printed is read again: the same settings, section by section. -/
theorem fil_prt {f : List St} (hg : ∀ p ∈ groups f, GoodN p.1.data.toList ∧ ∀ x ∈ p.2, GoodX x) (hl : (prt (groups f)).length ≤ 4000) : ∃ g, fil (prt (groups f)) = .ok g ∧ g.map trip = (flatG (groups f)).map trip := by
  obtain ⟨l', h1, h2⟩ := read_prt (groups f) 0 hg
  obtain ⟨g, e1, e2⟩ := h2 ⟨#[]⟩ []
  refine ⟨g, ?_, ?_⟩
  · unfold fil lns
    rw [if_neg (by omega), h1]
    unfold filL
    simp only [e2, List.nil_append]
  · rw [e1]
    unfold flatG
    rw [List.map_flatMap]
    have hf := groups_fine f
    have : ∀ gs : Gs, (∀ p ∈ gs, ∀ x ∈ p.2, x.s = p.1) → gs.flatMap (fun p => p.2.map (fun x => (p.1, x.k, x.v))) = gs.flatMap (fun p => p.2.map trip) := by
      intro gs
      induction gs with
      | nil => intro _; rfl
      | cons p r ih =>
        intro hp
        simp only [List.flatMap_cons]
        rw [ih (fun q hq => hp q (by simp [hq]))]
        congr 1
        refine List.map_congr_left (fun x hx => ?_)
        have := hp p (by simp) x hx
        simp [trip, this]
    exact this _ (fun p hp => (hf.own p hp).2)
end Go.Proofs.YtiinhfbfciccnaaDoor
/- Plain mathematics of reading: what is read can be printed. -/
namespace Go.Proofs.YtiinhfbfciccnaaDoor
open Lin
theorem pieces_no : ∀ (l : L) (p : L), p ∈ pieces l → ∀ c ∈ p, c ≠ 10
  | [], p, h, c, hc => by simp [pieces] at h; subst h; simp at hc
  | d :: r, p, h, c, hc => by
    unfold pieces at h
    split at h
    · rcases List.mem_cons.1 h with rfl | h
      · simp at hc
      · exact pieces_no r p h c hc
    · rename_i hd
      split at h
      · rename_i q qs hq
        rcases List.mem_cons.1 h with rfl | h
        · rcases List.mem_cons.1 hc with rfl | hc
          · exact hd
          · exact pieces_no r q (by rw [hq]; simp) c hc
        · exact pieces_no r p (by rw [hq]; simp [h]) c hc
      · simp at h; subst h; simp at hc; rw [hc]; exact hd
theorem trimS_mem {p : L} {c : UInt8} (h : c ∈ Lib.trimSuffix p [92]) : c ∈ p := by
  unfold Lib.trimSuffix at h
  split at h
  · exact List.mem_of_mem_take h
  · exact h
theorem whl_no : ∀ (r : List L) (n b : Nat) (x : L), (∀ p ∈ r, ∀ c ∈ p, c ≠ 10) → (∀ c ∈ x, c ≠ 10) → ∀ q ∈ whl n b x r, ∀ c ∈ q.2, c ≠ 10
  | [], n, b, x, _, hx, q, hq, c, hc => by
    unfold whl at hq
    split at hq
    · simp at hq
    · simp at hq; subst hq; exact hx c hc
  | p :: r, n, b, x, hr, hx, q, hq, c, hc => by
    unfold whl at hq
    split at hq
    · exact whl_no r _ _ _ (fun p hp => hr p (by simp [hp])) hx q hq c hc
    · split at hq
      · refine whl_no r _ _ _ (fun p hp => hr p (by simp [hp])) (fun c hc => ?_) q hq c hc
        rcases List.mem_append.1 hc with hc | hc
        · rcases List.mem_append.1 hc with hc | hc
          · exact hx c hc
          · exact hr p (by simp) c (trimS_mem hc)
        · simp at hc; rw [hc]; decide
      · rcases List.mem_cons.1 hq with rfl | hq
        · rcases List.mem_append.1 hc with hc | hc
          · exact hx c hc
          · exact hr p (by simp) c hc
        · exact whl_no r _ _ _ (fun p hp => hr p (by simp [hp])) (by simp) q hq c hc
/-- A line that can be printed. -/
def GoodLn (y : Ln) : Prop := (y.1 = 1 → GoodN y.2.1) ∧ (y.1 ≠ 1 → GoodK y.2.1 ∧ GoodV y.2.2.1)
theorem trim_mem {l : L} {c : UInt8} (h : c ∈ trim l) : c ∈ l := by
  rw [trim_def] at h
  obtain ⟨a, ha⟩ := trimL_suffix (trimR l)
  have h1 : c ∈ trimR l := by rw [ha]; simp [h]
  unfold trimR Lib.trimRightS at h1
  rw [List.mem_reverse] at h1
  have := (List.dropWhile_suffix (l := l.reverse) ([32, 9].contains ·)).subset h1
  simpa using this
theorem prs_good {t : L} {p : Kv} (h : prs t = some p) (hl : t.length ≤ 400) (hn : ∀ c ∈ t, c ≠ 10) (n : Nat) : GoodLn (p.1, p.2.1, p.2.2, n) := by
  have htl := trim_len t
  cases hs : secN (trim t) with
  | some nm =>
    rw [prs_sec hs] at h
    cases h
    refine ⟨fun _ => ?_, fun h => absurd rfl h⟩
    cases hb : brk (trim t) with
    | false => rw [secN_no hb] at hs; cases hs
    | true =>
      rw [secN_brk hb] at hs
      split at hs
      · rename_i hm
        cases hs
        refine ⟨hm, ?_⟩
        unfold brk at hb
        simp only [Bool.and_eq_true, decide_eq_true_eq] at hb
        simp only [List.length_take, List.length_drop]
        omega
      · cases hs
  | none =>
    rw [prs_set hs] at h
    split at h
    · rename_i hc
      simp only [Bool.and_eq_true] at hc
      cases h
      refine ⟨fun h => absurd h (show ¬ (2 : Nat) = 1 by decide), fun _ => ⟨⟨hc.2, Nat.le_trans (trimR_len _) (Nat.le_trans (cut_le _ _).1 (by omega))⟩, ?_⟩⟩
      rcases split_cases (trim t) 61 with hno | ⟨a, b, hab, hno⟩
      · rw [cut_none hno] at hc; exact absurd hc.1 (show ¬ false = true by decide)
      · have hcut : Lib.cut (trim t) [61] = (a, b, true) := by rw [hab]; exact cut_split hno
        show GoodV (trimL (Lib.cut (trim t) [61]).2.1)
        rw [hcut]
        show GoodV (trimL b)
        obtain ⟨d, hd⟩ := trimL_suffix b
        refine ⟨?_, fun c hc => hn c (trim_mem ?_), fun c r e => trimL_head e, fun e c he => ?_⟩
        · have h9 := congrArg List.length hab
          have h8 := trimL_len b
          simp only [List.length_append, List.length_cons] at h9
          omega
        · rw [hab, hd]; simp [hc]
        · refine trim_last (l := t) (a := a ++ 61 :: d ++ e) (c := c) ?_
          rw [hab, hd, he]; simp
    · cases h
theorem lnsW_good : ∀ (r : List (Nat × L)) (l : List Ln), (∀ q ∈ r, ∀ c ∈ q.2, c ≠ 10) → lnsW r = .ok l → ∀ y ∈ l, GoodLn y
  | [], l, _, h, y, hy => by simp [lnsW] at h; subst h; simp at hy
  | (n, t) :: r, l, hn, h, y, hy => by
    unfold lnsW at h
    split at h
    · cases h
    · rename_i hlen
      split at h
      · cases h
      · rename_i p hp
        split at h
        · rename_i l' hl'
          cases h
          rcases List.mem_cons.1 hy with rfl | hy
          · exact prs_good hp (by omega) (hn (n, t) (by simp)) n
          · exact lnsW_good r l' (fun q hq => hn q (by simp [hq])) hl' y hy
        · cases h
theorem pf_good : ∀ (l : List Ln) (sec : ByteArray) (acc f : List St), (∀ y ∈ l, GoodLn y) → (sec ≠ ⟨#[]⟩ → GoodN sec.data.toList) → (∀ x ∈ acc, GoodN x.s.data.toList ∧ GoodK x.k.data.toList ∧ GoodV x.v.data.toList) → pf sec acc l = .ok f →
    ∀ x ∈ f, GoodN x.s.data.toList ∧ GoodK x.k.data.toList ∧ GoodV x.v.data.toList
  | [], sec, acc, f, _, _, ha, h, x, hx => by simp [pf] at h; subst h; exact ha x hx
  | y :: r, sec, acc, f, hl, hs, ha, h, x, hx => by
    have hy := hl y (by simp)
    unfold pf at h
    split at h
    · rename_i h1
      exact pf_good r _ acc f (fun z hz => hl z (by simp [hz])) (fun _ => hy.1 h1) ha h x hx
    · rename_i h1
      split at h
      · cases h
      · rename_i h2
        refine pf_good r sec _ f (fun z hz => hl z (by simp [hz])) hs (fun z hz => ?_) h x hx
        rcases List.mem_append.1 hz with hz | hz
        · exact ha z hz
        · simp at hz; subst hz
          exact ⟨hs h2, (hy.2 h1).1, (hy.2 h1).2⟩
theorem fil_good {s : L} {f : List St} (h : fil s = .ok f) : ∀ x ∈ f, GoodN x.s.data.toList ∧ GoodK x.k.data.toList ∧ GoodV x.v.data.toList := by
  unfold fil at h
  cases hl : lns s with
  | error e => rw [hl] at h; cases h
  | ok l =>
    rw [hl] at h
    unfold filL at h
    simp only at h
    have hlg : ∀ y ∈ l, GoodLn y := by
      unfold lns at hl
      split at hl
      · cases hl
      · exact lnsW_good _ l (whl_no _ _ _ _ (fun p hp => pieces_no s p hp) (by simp)) hl
    cases hp : pf ⟨#[]⟩ [] l with
    | error n => rw [hp] at h; cases h
    | ok a =>
      rw [hp] at h
      cases h
      exact pf_good l ⟨#[]⟩ [] f hlg (fun h => absurd rfl h) (by simp) hp
/-- All that FileBack asks. -/
theorem back_plain {s : L} {f : List St} (h : fil s = .ok f) (hv : ∀ x ∈ f, x.v.size + x.k.size < 400 ∧ ∀ a c, x.v.data.toList = a ++ [c] → c ≠ 92) (hl : (prt (groups f)).length ≤ 4000) :
    ∃ g, fil (prt (groups f)) = .ok g ∧ g.length = f.length ∧ prt (groups g) = prt (groups f) ∧ ∀ y, g.countP (sameT y) = f.countP (sameT y) := by
  have hgood := fil_good h
  have hmem : ∀ p ∈ groups f, ∀ x ∈ p.2, x ∈ f := fun p hp x hx => (groups_perm f).mem_iff.1 (by unfold flatG; exact List.mem_flatMap.2 ⟨p, hp, hx⟩)
  have hf := groups_fine f
  obtain ⟨g, h1, h2⟩ := fil_prt (f := f) (fun p hp => by
    refine ⟨?_, fun x hx => ?_⟩
    · obtain ⟨x, t, ht⟩ := List.exists_cons_of_ne_nil (hf.own p hp).1
      have hx : x ∈ p.2 := by rw [ht]; simp
      have := (hgood x (hmem p hp x hx)).1
      rwa [(hf.own p hp).2 x hx] at this
    · have hxf := hmem p hp x hx
      exact ⟨(hgood x hxf).2.1.1, (hgood x hxf).2.2, (hv x hxf).2, by have := (hv x hxf).1; omega⟩) hl
  exact ⟨g, h1, len_again h2, prt_again h2, count_again h2⟩
end Go.Proofs.YtiinhfbfciccnaaDoor
/- Plain bounds for FileBack. -/
namespace Go.Proofs.YtiinhfbfciccnaaDoor
open Go.RowKit Go.Shelf Lin
theorem lns_len2 (s : L) (l : List Ln) (h : lns s = .ok l) : l.length ≤ s.length + 2 := by
  unfold lns at h
  split at h
  · cases h
  · have h1 := lnsW_len _ _ h
    have h2 := whl_len (pieces s) 0 0 []
    have h3 := tot_len (pieces s)
    rw [tot_pieces] at h3
    omega
theorem pf_len : ∀ (l : List Ln) (s : ByteArray) (acc a : List St), pf s acc l = .ok a → a.length ≤ acc.length + l.length
  | [], s, acc, a, h => by simp [pf] at h; subst h; simp
  | x :: r, s, acc, a, h => by
    unfold pf at h
    split at h
    · have := pf_len r _ _ _ h; simp only [List.length_cons]; omega
    · split at h
      · cases h
      · have := pf_len r _ _ _ h; simp only [List.length_append, List.length_cons, List.length_nil] at this ⊢; omega
theorem fil_len2 {s : L} {f : List St} (h : fil s = .ok f) : f.length ≤ s.length + 2 := by
  unfold fil at h
  cases hl : lns s with
  | error e => rw [hl] at h; cases h
  | ok l =>
    rw [hl] at h
    unfold filL at h
    simp only at h
    cases hp : pf ⟨#[]⟩ [] l with
    | error n => rw [hp] at h; cases h
    | ok a =>
      rw [hp] at h
      cases h
      have := pf_len _ _ _ _ hp
      have := lns_len2 s l hl
      simp only [List.length_nil] at *; omega
/-- How long a print can be. -/
theorem prt_len : ∀ (gs : Gs) (m : Nat), (∀ p ∈ gs, p.1.size ≤ 398 ∧ p.2 ≠ [] ∧ ∀ x ∈ p.2, x.v.size + x.k.size < 400) → (flatG gs).length ≤ m → (prt gs).length ≤ 802 * m
  | [], m, _, _ => by simp [prt]
  | p :: r, m, h, hm => by
    obtain ⟨h1, h2, h3⟩ := h p (by simp)
    have hl : flatG (p :: r) = p.2 ++ flatG r := rfl
    rw [hl, List.length_append] at hm
    have ih := prt_len r (m - p.2.length) (fun q hq => h q (by simp [hq])) (by omega)
    have hp : ∀ ls : List St, (∀ x ∈ ls, x.v.size + x.k.size < 400) → (ls.flatMap oneL).length ≤ 401 * ls.length := by
      intro ls
      induction ls with
      | nil => intro _; simp
      | cons x t ih =>
        intro hx
        have h4 := ih (fun y hy => hx y (by simp [hy]))
        have h5 := hx x (by simp)
        simp only [List.flatMap_cons, List.length_append, List.length_cons, oneL, List.length_nil, size_list]
        omega
    have h6 := hp p.2 h3
    have h7 : 0 < p.2.length := List.length_pos_iff.2 h2
    have e : prt (p :: r) = secL p ++ prt r := rfl
    rw [e, List.length_append]
    simp only [secL, List.length_append, List.length_cons, List.length_nil, size_list]
    omega
theorem trip_size {s : L} {f : List St} (h : fil s = .ok f) : ∀ x ∈ f, x.s.size ≤ 398 := fun x hx => by
  have := (fil_good h x hx).1.2
  rw [size_list] at this; omega
theorem groups_bound {f : List St} (hs : ∀ x ∈ f, x.s.size ≤ 398) (hv : ∀ x ∈ f, x.v.size + x.k.size < 400) : (prt (groups f)).length ≤ 802 * f.length := by
  have hf := groups_fine f
  have hmem : ∀ p ∈ groups f, ∀ x ∈ p.2, x ∈ f := fun p hp x hx => (groups_perm f).mem_iff.1 (by unfold flatG; exact List.mem_flatMap.2 ⟨p, hp, hx⟩)
  refine prt_len _ _ (fun p hp => ⟨?_, (hf.own p hp).1, fun x hx => hv x (hmem p hp x hx)⟩) (by rw [(groups_perm f).length_eq]; exact Nat.le_refl _)
  obtain ⟨x, t, ht⟩ := List.exists_cons_of_ne_nil (hf.own p hp).1
  have hx : x ∈ p.2 := by rw [ht]; simp
  have := hs x (hmem p hp x hx)
  rwa [(hf.own p hp).2 x hx] at this
def OkV (x : St) : Prop := x.v.size + x.k.size < 400 ∧ ∀ a c, x.v.data.toList = a ++ [c] → c ≠ 92
end Go.Proofs.YtiinhfbfciccnaaDoor
