/- Plain queues: what is in one, in order; what Push and Pop do to it. -/
import Derived.Test.YtcjlkhgnohdonaaQM
namespace Go.Proofs.Ytcjlkhgnohdonaa
variable {α : Type}
/-- Ahead: by the key, then by the turn. -/
def Ahd (key : α → Int) (x y : α × Int) : Prop := key x.1 < key y.1 ∨ key x.1 = key y.1 ∧ x.2 < y.2
/-- A queue's front F holds the elements L, in order; turns are below n. -/
structure QI (key : α → Int) (F : List (Tr α)) (L : List (α × Int)) (n : Int) : Prop where
  fl : ∃ m, Fl key m F
  st : F.Pairwise fun x y => x.t < y.t
  pm : (elsL F).Perm L
  so : L.Pairwise (Ahd key)
  lt : ∀ y ∈ L, y.2 < n
theorem QI.nil (key : α → Int) (n : Int) : QI key ([] : List (Tr α)) [] n := ⟨⟨0, Fl.nil⟩, List.Pairwise.nil, List.Perm.refl _, List.Pairwise.nil, fun _ h => by cases h⟩
theorem QI.empty {key : α → Int} {L : List (α × Int)} {n : Int} (h : QI key [] L n) : L = [] := (List.Perm.nil_eq h.pm).symm
theorem QI.head {key : α → Int} {x : Tr α} {F : List (Tr α)} {L : List (α × Int)} {n : Int} (h : QI key (x :: F) L n) : ∃ L2, L = (x.v, x.t) :: L2 ∧ (x.k.els ++ elsL F).Perm L2 := by
  obtain ⟨m, hm⟩ := h.fl
  have hx : (x.v, x.t) ∈ L := h.pm.mem_iff.1 (by rw [elsL_cons]; exact List.mem_cons_self ..)
  have pm := h.pm
  have so := h.so
  cases L with
  | nil => cases hx
  | cons y L2 =>
    have e : y = (x.v, x.t) := by
      rcases List.mem_cons.1 hx with e | hx
      · exact e.symm
      · exfalso
        have hy : y ∈ elsL (x :: F) := pm.mem_iff.2 (List.mem_cons_self ..)
        have a := (List.pairwise_cons.1 so).1 _ hx
        have ky := hm.els y hy
        have kx := (hm x (List.mem_cons_self ..)).1
        obtain ⟨z, hz, hyz⟩ := List.mem_flatMap.1 hy
        obtain ⟨z1, z2⟩ := hm z hz
        rcases List.mem_cons.1 hyz with rfl | hyz
        · rcases List.mem_cons.1 hz with rfl | hz
          · rcases a with a | a
            · exact absurd a (by show ¬ key z.v < key z.v; omega)
            · exact absurd a.2 (by show ¬ z.t < z.t; omega)
          · have := (List.pairwise_cons.1 h.st).1 z hz
            rcases a with a | a
            · exact absurd a (by show ¬ key z.v < key x.v; omega)
            · exact absurd a.2 (by show ¬ z.t < x.t; omega)
        · have := Fo.Up.els _ z2 y hyz
          rcases a with a | a
          · exact absurd a (by show ¬ key y.1 < key x.v; omega)
          · exact absurd a.1 (by show ¬ key y.1 = key x.v; omega)
    subst e
    exact ⟨L2, rfl, pm.cons_inv⟩
/-- What is behind the first one goes behind the last of the others. -/
theorem QI.pop {key : α → Int} {x : Tr α} {F : List (Tr α)} {L : List (α × Int)} {n : Int} (h : QI key (x :: F) L n) (hF : F ≠ []) : ∃ L2, L = (x.v, x.t) :: L2 ∧ QI key (onL x.k.toL F) L2 n := by
  obtain ⟨L2, rfl, pm⟩ := h.head
  obtain ⟨m, hm⟩ := h.fl
  obtain ⟨x1, x2⟩ := hm x (List.mem_cons_self ..)
  refine ⟨L2, rfl, ⟨m, onL_fl (hm.sub fun y hy => List.mem_cons_of_mem _ hy) (Fo.Up.toL _ x2)⟩, ?_, ?_, (List.pairwise_cons.1 h.so).2, fun y hy => h.lt y (List.mem_cons_of_mem _ hy)⟩
  · have s := (List.pairwise_cons.1 h.st).2
    have e : ∀ l : List (Tr α), l.Pairwise (fun x y => x.t < y.t) ↔ (l.map fun x => (x.v, x.t)).Pairwise (fun x y => x.2 < y.2) := fun l => by rw [List.pairwise_map]
    rw [e] at s ⊢
    rw [onL_ts]; exact s
  · refine (onL_els _ _ hF).trans ?_
    rw [elsL_toL]
    exact List.perm_append_comm.trans pm
/-- The last of the front is out: those behind it, sorted, are the front. -/
theorem QI.pop1 {key : α → Int} {x : Tr α} {L : List (α × Int)} {n : Int} (h : QI key [x] L n) {N : Nat} (hN : x.k.toL.length ≤ N + 1) {F : List (Tr α)} (hp : F.Perm (leastL key N x.k.toL)) (hs : F.Pairwise fun x y => x.t < y.t) : ∃ L2, L = (x.v, x.t) :: L2 ∧ QI key F L2 n := by
  obtain ⟨L2, rfl, pm⟩ := h.head
  obtain ⟨m, hm⟩ := h.fl
  obtain ⟨x1, x2⟩ := hm x (List.mem_cons_self ..)
  obtain ⟨m2, h2⟩ := leastL_fl key N x.k.toL hN (fun y hy => (Fo.Up.toL _ x2 y hy).2)
  refine ⟨L2, rfl, ⟨m2, h2.sub fun y hy => hp.mem_iff.1 hy⟩, hs, ?_, (List.pairwise_cons.1 h.so).2, fun y hy => h.lt y (List.mem_cons_of_mem _ hy)⟩
  refine (elsL_perm hp).trans ((leastL_els _ _ _).trans ?_)
  rw [elsL_toL]
  rw [elsL_nil, List.append_nil] at pm
  exact pm
/-- The front made anew, of single trees. -/
theorem QI.anew {key : α → Int} {T : List (Tr α)} {L : List (α × Int)} {n : Int} {N : Nat} (hN : T.length ≤ N + 1) (hT : ∀ x ∈ T, x.k = .nil) {F : List (Tr α)} (hp : F.Perm (leastL key N T)) (hs : F.Pairwise fun x y => x.t < y.t) (hl : (T.map fun x => (x.v, x.t)).Perm L) (so : L.Pairwise (Ahd key)) (lt : ∀ y ∈ L, y.2 < n) : QI key F L n := by
  obtain ⟨m2, h2⟩ := leastL_fl key N T hN (fun y hy => by rw [hT y hy]; trivial)
  refine ⟨⟨m2, h2.sub fun y hy => hp.mem_iff.1 hy⟩, hs, ?_, so, lt⟩
  refine (elsL_perm hp).trans ((leastL_els _ _ _).trans ?_)
  have e : ∀ T : List (Tr α), (∀ x ∈ T, x.k = .nil) → elsL T = T.map fun x => (x.v, x.t) := by
    intro T
    induction T with
    | nil => intro _; rfl
    | cons y T ih =>
      intro h
      rw [elsL_cons, h y (List.mem_cons_self ..), ih (fun z hz => h z (List.mem_cons_of_mem _ hz))]; rfl
  rw [e T hT]; exact hl
/-- v, pushed: behind all that it isn't ahead of. -/
def insK (key : α → Int) (v : α) (n : Int) : List (α × Int) → List (α × Int)
  | [] => [(v, n)]
  | y :: L => if key v < key y.1 then (v, n) :: y :: L else y :: insK key v n L
def insA (key : α → Int) (v : α) : List α → List α
  | [] => [v]
  | y :: L => if key v < key y then v :: y :: L else y :: insA key v L
theorem insK_map (key : α → Int) (v : α) (n : Int) : ∀ L : List (α × Int), (insK key v n L).map (·.1) = insA key v (L.map (·.1))
  | [] => rfl
  | y :: L => by
    simp only [insK, insA, List.map_cons]
    split
    · rfl
    · rw [List.map_cons, insK_map key v n L]
theorem insK_perm (key : α → Int) (v : α) (n : Int) : ∀ L : List (α × Int), (insK key v n L).Perm ((v, n) :: L)
  | [] => List.Perm.refl _
  | y :: L => by
    unfold insK
    split
    · exact List.Perm.refl _
    · exact ((insK_perm key v n L).cons y).trans (List.Perm.swap ..)
theorem insK_sorted (key : α → Int) (v : α) (n : Int) : ∀ L : List (α × Int), L.Pairwise (Ahd key) → (∀ y ∈ L, y.2 < n) → (insK key v n L).Pairwise (Ahd key)
  | [], _, _ => List.pairwise_singleton _ _
  | y :: L, h, hn => by
    obtain ⟨h1, h2⟩ := List.pairwise_cons.1 h
    unfold insK
    split
    · next e =>
      refine List.pairwise_cons.2 ⟨fun z hz => .inl ?_, h⟩
      rcases List.mem_cons.1 hz with rfl | hz
      · exact e
      · show key v < key z.1
        rcases h1 z hz with q | q
        · omega
        · have := q.1; omega
    · next e =>
      refine List.pairwise_cons.2 ⟨fun z hz => ?_, insK_sorted key v n L h2 fun z hz => hn z (List.mem_cons_of_mem _ hz)⟩
      rcases List.mem_cons.1 ((insK_perm key v n L).mem_iff.1 hz) with rfl | hz
      · have := hn y (List.mem_cons_self ..)
        by_cases q : key y.1 < key v
        · exact .inl q
        · exact .inr ⟨by show key y.1 = key v; omega, this⟩
      · exact h1 z hz
theorem insA_len (key : α → Int) (v : α) : ∀ L : List α, (insA key v L).length = L.length + 1
  | [] => rfl
  | y :: L => by
    unfold insA
    split
    · rfl
    · simp only [List.length_cons, insA_len key v L]
theorem QI.push {key : α → Int} {F : List (Tr α)} {L : List (α × Int)} {n : Int} (h : QI key F L n) (v : α) : QI key (joinL key F [⟨v, n, .nil⟩]) (insK key v n L) (n + 1) := by
  obtain ⟨m, hm⟩ := h.fl
  have one : Fl key (key v) [(⟨v, n, .nil⟩ : Tr α)] := Fl.one (x := ⟨v, n, .nil⟩) trivial
  refine ⟨joinL_fl hm one, ?_, ?_, insK_sorted key v n L h.so h.lt, fun y hy => ?_⟩
  · have e : ∀ l : List (Tr α), l.Pairwise (fun x y => x.t < y.t) ↔ (l.map fun x => (x.v, x.t)).Pairwise (fun x y => x.2 < y.2) := fun l => by rw [List.pairwise_map]
    unfold joinL
    split
    · exact List.pairwise_singleton _ _
    · split
      · exact h.st
      · split
        · rw [e, onL_ts, ← e]; exact h.st
        · split
          · rw [e, onL_ts]; exact List.pairwise_singleton _ _
          · refine List.pairwise_append.2 ⟨h.st, List.pairwise_singleton _ _, fun a ha b hb => ?_⟩
            obtain rfl := List.mem_singleton.1 hb
            exact h.lt (a.v, a.t) (h.pm.mem_iff.1 (List.mem_flatMap.2 ⟨a, ha, List.mem_cons_self ..⟩))
  · refine (joinL_els _ _ _).trans ?_
    refine List.Perm.trans ?_ (insK_perm key v n L).symm
    refine List.perm_append_comm.trans ?_
    exact h.pm.cons (v, n)
  · rcases List.mem_cons.1 ((insK_perm key v n L).mem_iff.1 hy) with rfl | hy
    · show n < n + 1; omega
    · have := h.lt y hy; omega
theorem QI.len {key : α → Int} {F : List (Tr α)} {L : List (α × Int)} {n : Int} (h : QI key F L n) : F.length ≤ L.length := by
  rw [← h.pm.length_eq]
  clear h
  induction F with
  | nil => simp
  | cons x F ih => rw [elsL_cons]; simp; omega
theorem elsL_len : ∀ l : List (Tr α), l.length ≤ (elsL l).length
  | [] => Nat.zero_le _
  | x :: l => by
    have := elsL_len l
    rw [elsL_cons]; simp only [List.length_cons, List.length_append]; omega
/-- Turns of one key that rise do so strictly. -/
theorem strict_of {key : α → Int} {F : List (Tr α)} {L : List (α × Int)} {m : Int} (hp : (elsL F).Perm L) (so : L.Pairwise (Ahd key)) (fl : Fl key m F) (le : F.Pairwise fun x y => x.t ≤ y.t) : F.Pairwise fun x y => x.t < y.t := by
  have h1 : L.Pairwise fun a b => ¬ (key a.1 = key b.1 ∧ a.2 = b.2) := so.imp fun {a b} h e => by
    rcases h with h | h
    · omega
    · omega
  have h2 : (elsL F).Pairwise fun a b => ¬ (key a.1 = key b.1 ∧ a.2 = b.2) := (hp.pairwise_iff (fun {a b} h e => h ⟨e.1.symm, e.2.symm⟩)).2 h1
  have h3 : ∀ F : List (Tr α), (F.map fun x => (x.v, x.t)).Sublist (elsL F) := by
    intro F
    induction F with
    | nil => exact List.Sublist.refl _
    | cons x F ih =>
      rw [elsL_cons, List.map_cons]
      exact (ih.trans (List.sublist_append_right _ _)).cons_cons _
  have h4 := h2.sublist (h3 F)
  rw [List.pairwise_map] at h4
  have h5 : F.Pairwise fun a b => a.t ≤ b.t ∧ ¬ (key a.v = key b.v ∧ a.t = b.t) := List.Pairwise.and le h4
  refine h5.imp_of_mem fun {a b} ha hb h => ?_
  have := (fl a ha).1
  have := (fl b hb).1
  have h6 : ¬ a.t = b.t := fun e => h.2 ⟨by omega, e⟩
  have := h.1
  omega
theorem QI.nilL {key : α → Int} {F : List (Tr α)} {n : Int} (h : QI key F [] n) : F = [] := by
  cases F with
  | nil => rfl
  | cons x F => obtain ⟨L2, e, _⟩ := h.head; cases e
end Go.Proofs.Ytcjlkhgnohdonaa
