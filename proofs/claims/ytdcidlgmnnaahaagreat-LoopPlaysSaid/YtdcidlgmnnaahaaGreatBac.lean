import Derived.Test.YtdcidlgmnnaahaaGreatBaa
import Derived.Test.YtdcidlgmnnaahaaGreatBab
/- Plain queues: forests by keys, joined, by halves; what stays in order. -/
namespace Go.Proofs.YtdcidlgmnnaahaaGreat
/-- Trees behind a tree. -/
inductive Fo (α : Type) where
  | nil : Fo α
  | cons (v : α) (t : Int) (k r : Fo α) : Fo α
structure Tr (α : Type) where
  v : α
  t : Int
  k : Fo α
variable {α : Type}
def Fo.toL : Fo α → List (Tr α)
  | .nil => []
  | .cons v t k r => ⟨v, t, k⟩ :: r.toL
def Fo.els : Fo α → List (α × Int)
  | .nil => []
  | .cons v t k r => (v, t) :: (k.els ++ r.els)
def elsL (l : List (Tr α)) : List (α × Int) := l.flatMap fun x => (x.v, x.t) :: x.k.els
theorem elsL_nil : elsL ([] : List (Tr α)) = [] := rfl
theorem elsL_cons (x : Tr α) (l : List (Tr α)) : elsL (x :: l) = (x.v, x.t) :: (x.k.els ++ elsL l) := rfl
theorem elsL_app (a b : List (Tr α)) : elsL (a ++ b) = elsL a ++ elsL b := by simp [elsL]
theorem elsL_toL : ∀ f : Fo α, elsL f.toL = f.els
  | .nil => rfl
  | .cons v t k r => by
    rw [Fo.toL, elsL_cons, elsL_toL r]; rfl
theorem elsL_perm {a b : List (Tr α)} (h : a.Perm b) : (elsL a).Perm (elsL b) := h.flatMap_right _
/-- All keys are above m, and each tree's are above its own. -/
def Fo.Up (key : α → Int) : Int → Fo α → Prop
  | _, .nil => True
  | m, .cons v _ k r => m < key v ∧ k.Up key (key v) ∧ r.Up key m
theorem Fo.Up.mono {key : α → Int} : ∀ (f : Fo α) {m m' : Int}, f.Up key m → m' ≤ m → f.Up key m'
  | .nil, _, _, _, _ => trivial
  | .cons _ _ _ r, _, _, h, e => ⟨by have := h.1; omega, h.2.1, Fo.Up.mono r h.2.2 e⟩
theorem Fo.Up.els {key : α → Int} : ∀ (f : Fo α) {m : Int}, f.Up key m → ∀ y ∈ f.els, m < key y.1
  | .nil, _, _, y, hy => by cases hy
  | .cons v t k r, m, h, y, hy => by
    rcases List.mem_cons.1 hy with rfl | hy
    · exact h.1
    · rcases List.mem_append.1 hy with hy | hy
      · have := Fo.Up.els k h.2.1 y hy; have := h.1; omega
      · exact Fo.Up.els r h.2.2 y hy
theorem Fo.Up.toL {key : α → Int} : ∀ (f : Fo α) {m : Int}, f.Up key m → ∀ x ∈ f.toL, m < key x.v ∧ x.k.Up key (key x.v)
  | .nil, _, _, x, hx => by cases hx
  | .cons v t k r, m, h, x, hx => by
    rcases List.mem_cons.1 hx with rfl | hx
    · exact ⟨h.1, h.2.1⟩
    · exact Fo.Up.toL r h.2.2 x hx
/-- A row of trees of one key. -/
def Fl (key : α → Int) (m : Int) (l : List (Tr α)) : Prop := ∀ x ∈ l, key x.v = m ∧ x.k.Up key m
theorem Fl.nil {key : α → Int} {m : Int} : Fl key m ([] : List (Tr α)) := fun _ h => by cases h
theorem Fl.one {key : α → Int} {x : Tr α} (h : x.k.Up key (key x.v)) : Fl key (key x.v) [x] := fun y hy => by
  obtain rfl := List.mem_singleton.1 hy
  exact ⟨rfl, h⟩
theorem Fl.app {key : α → Int} {m : Int} {a b : List (Tr α)} (ha : Fl key m a) (hb : Fl key m b) : Fl key m (a ++ b) := fun x hx => (List.mem_append.1 hx).elim (ha x) (hb x)
theorem Fl.sub {key : α → Int} {m : Int} {a b : List (Tr α)} (ha : Fl key m a) (h : ∀ x ∈ b, x ∈ a) : Fl key m b := fun x hx => ha x (h x hx)
theorem Fl.els {key : α → Int} {m : Int} {l : List (Tr α)} (h : Fl key m l) : ∀ y ∈ elsL l, m ≤ key y.1 := fun y hy => by
  obtain ⟨x, hx, hy⟩ := List.mem_flatMap.1 hy
  obtain ⟨h1, h2⟩ := h x hx
  rcases List.mem_cons.1 hy with rfl | hy
  · show m ≤ key x.v; omega
  · have := Fo.Up.els _ h2 y hy; omega
/-- Trees, one by one, behind a tree: the last one stands first. -/
def putF (ts : List (Tr α)) (k : Fo α) : Fo α := ts.foldl (fun j t => .cons t.v t.t t.k j) k
theorem putF_cons (x : Tr α) (ts : List (Tr α)) (k : Fo α) : putF (x :: ts) k = putF ts (.cons x.v x.t x.k k) := rfl
theorem putF_els : ∀ (ts : List (Tr α)) (k : Fo α), (putF ts k).els.Perm (elsL ts ++ k.els)
  | [], _ => List.Perm.refl _
  | x :: ts, k => by
    rw [putF_cons]
    refine (putF_els ts _).trans ?_
    rw [elsL_cons]
    show (elsL ts ++ (x.v, x.t) :: (x.k.els ++ k.els)).Perm ((x.v, x.t) :: (x.k.els ++ elsL ts) ++ k.els)
    refine List.perm_middle.trans ?_
    rw [List.cons_append]
    refine List.Perm.cons _ ?_
    rw [← List.append_assoc]
    exact List.Perm.append_right _ List.perm_append_comm
theorem putF_up {key : α → Int} {m : Int} : ∀ (ts : List (Tr α)) (k : Fo α), (∀ x ∈ ts, m < key x.v ∧ x.k.Up key (key x.v)) → k.Up key m → (putF ts k).Up key m
  | [], _, _, h => h
  | x :: ts, _, hs, h => putF_up ts _ (fun y hy => hs y (List.mem_cons_of_mem _ hy)) ⟨(hs x (List.mem_cons_self ..)).1, (hs x (List.mem_cons_self ..)).2, h⟩
/-- The last one of a row with trees put behind it. -/
def onL (ts : List (Tr α)) : List (Tr α) → List (Tr α)
  | [] => []
  | [x] => [⟨x.v, x.t, putF ts x.k⟩]
  | x :: y :: l => x :: onL ts (y :: l)
theorem onL_len (ts : List (Tr α)) : ∀ l : List (Tr α), (onL ts l).length = l.length
  | [] => rfl
  | [_] => rfl
  | x :: y :: l => by simp only [onL, List.length_cons]; have := onL_len ts (y :: l); simp only [List.length_cons] at this; omega
theorem onL_snoc (ts : List (Tr α)) : ∀ (l : List (Tr α)) (x : Tr α), onL ts (l ++ [x]) = l ++ [⟨x.v, x.t, putF ts x.k⟩]
  | [], x => rfl
  | [y], x => rfl
  | y :: z :: l, x => by
    show y :: onL ts ((z :: l) ++ [x]) = _
    rw [onL_snoc ts (z :: l) x]; rfl
theorem snoc_of : ∀ {l : List (Tr α)}, l ≠ [] → ∃ a x, l = a ++ [x] := fun {l} h => ⟨l.dropLast, l.getLast h, (List.dropLast_concat_getLast h).symm⟩
theorem onL_els (ts : List (Tr α)) (l : List (Tr α)) (h : l ≠ []) : (elsL (onL ts l)).Perm (elsL l ++ elsL ts) := by
  obtain ⟨a, x, rfl⟩ := snoc_of h
  rw [onL_snoc, elsL_app, elsL_app, List.append_assoc]
  refine List.Perm.append_left _ ?_
  show ((x.v, x.t) :: ((putF ts x.k).els ++ [])).Perm ((x.v, x.t) :: (x.k.els ++ []) ++ elsL ts)
  rw [List.append_nil, List.append_nil, List.cons_append]
  exact List.Perm.cons _ ((putF_els ts _).trans List.perm_append_comm)
theorem onL_fl {key : α → Int} {m : Int} {ts l : List (Tr α)} (hl : Fl key m l) (hs : ∀ x ∈ ts, m < key x.v ∧ x.k.Up key (key x.v)) : Fl key m (onL ts l) := by
  by_cases h : l = []
  · subst h; exact Fl.nil
  · obtain ⟨a, x, rfl⟩ := snoc_of h
    rw [onL_snoc]
    refine Fl.app (hl.sub fun y hy => List.mem_append_left _ hy) ?_
    intro y hy
    obtain rfl := List.mem_singleton.1 hy
    obtain ⟨h1, h2⟩ := hl x (by simp)
    exact ⟨h1, putF_up _ _ hs h2⟩
theorem onL_ts (ts : List (Tr α)) : ∀ l : List (Tr α), (onL ts l).map (fun x => (x.v, x.t)) = l.map (fun x => (x.v, x.t))
  | [] => rfl
  | [_] => rfl
  | x :: y :: l => by
    show _ :: (onL ts (y :: l)).map _ = _ :: (y :: l).map _
    rw [onL_ts ts (y :: l)]
/-- The first key of a row. -/
def keyL (key : α → Int) : List (Tr α) → Int
  | [] => 0
  | x :: _ => key x.v
theorem Fl.keyL {key : α → Int} {m : Int} {l : List (Tr α)} (h : Fl key m l) (hn : l ≠ []) : keyL key l = m := by
  cases l with
  | nil => exact absurd rfl hn
  | cons x l => exact (h x (List.mem_cons_self ..)).1
/-- Two rows to one. -/
def joinL (key : α → Int) (a b : List (Tr α)) : List (Tr α) :=
  if a = [] then b else if b = [] then a
  else if keyL key a < keyL key b then onL b a
  else if keyL key b < keyL key a then onL a b
  else a ++ b
theorem joinL_els (key : α → Int) (a b : List (Tr α)) : (elsL (joinL key a b)).Perm (elsL a ++ elsL b) := by
  unfold joinL
  split
  · next h => subst h; exact List.Perm.refl _
  · next ha =>
    split
    · next h => subst h; rw [elsL_nil, List.append_nil]
    · next hb =>
      split
      · exact onL_els b a ha
      · split
        · exact (onL_els a b hb).trans List.perm_append_comm
        · rw [elsL_app]
theorem up_of_fl {key : α → Int} {m m' : Int} {l : List (Tr α)} (h : Fl key m' l) (e : m < m') : ∀ x ∈ l, m < key x.v ∧ x.k.Up key (key x.v) := fun x hx => by
  obtain ⟨h1, h2⟩ := h x hx
  exact ⟨by omega, by rw [h1]; exact h2⟩
theorem joinL_fl {key : α → Int} {a b : List (Tr α)} {m m' : Int} (ha : Fl key m a) (hb : Fl key m' b) : ∃ m2, Fl key m2 (joinL key a b) := by
  unfold joinL
  split
  · exact ⟨_, hb⟩
  · next na =>
    split
    · exact ⟨_, ha⟩
    · next nb =>
      rw [ha.keyL na, hb.keyL nb]
      split
      · next e => exact ⟨m, onL_fl ha (up_of_fl hb e)⟩
      · split
        · next e => exact ⟨m', onL_fl hb (up_of_fl ha e)⟩
        · have e : m = m' := by omega
          subst e
          exact ⟨m, ha.app hb⟩
theorem joinL_ne {key : α → Int} {a b : List (Tr α)} (ha : a ≠ []) : joinL key a b ≠ [] := by
  intro h
  have e := congrArg List.length h
  have l1 : 0 < a.length := List.length_pos_iff.2 ha
  unfold joinL at e
  rw [if_neg ha] at e
  split at e
  · rw [List.length_nil] at e; omega
  · next nb =>
    have l2 : 0 < b.length := List.length_pos_iff.2 nb
    split at e
    · rw [onL_len, List.length_nil] at e; omega
    · split at e
      · rw [onL_len, List.length_nil] at e; omega
      · rw [List.length_append, List.length_nil] at e; omega
theorem joinL_len {key : α → Int} {a b : List (Tr α)} : (joinL key a b).length ≤ a.length + b.length := by
  unfold joinL
  split
  · omega
  · split
    · omega
    · split
      · rw [onL_len]; omega
      · split
        · rw [onL_len]; omega
        · simp
/-- The least ones of a row, by halves. -/
def leastL (key : α → Int) : Nat → List (Tr α) → List (Tr α)
  | 0, l => l
  | n + 1, l => if l.length < 2 then l else joinL key (leastL key n (l.take (l.length / 2))) (leastL key n (l.drop (l.length / 2)))
theorem leastL_els (key : α → Int) : ∀ (n : Nat) (l : List (Tr α)), (elsL (leastL key n l)).Perm (elsL l)
  | 0, l => List.Perm.refl _
  | n + 1, l => by
    unfold leastL
    split
    · exact List.Perm.refl _
    · refine (joinL_els _ _ _).trans ?_
      refine ((leastL_els key n _).append (leastL_els key n _)).trans ?_
      rw [← elsL_app, List.take_append_drop]
theorem leastL_fl (key : α → Int) : ∀ (n : Nat) (l : List (Tr α)), l.length ≤ n + 1 → (∀ x ∈ l, x.k.Up key (key x.v)) → ∃ m, Fl key m (leastL key n l)
  | n, [], _, _ => by
    refine ⟨0, ?_⟩
    cases n <;> exact Fl.nil
  | n, [x], _, h => by
    refine ⟨key x.v, ?_⟩
    cases n <;> exact Fl.one (h x (List.mem_cons_self ..))
  | 0, x :: y :: l, e, _ => by simp at e
  | n + 1, x :: y :: l, e, h => by
    unfold leastL
    rw [if_neg (by simp)]
    have el : (x :: y :: l).length = l.length + 2 := rfl
    obtain ⟨m, h1⟩ := leastL_fl key n ((x :: y :: l).take ((x :: y :: l).length / 2)) (by rw [List.length_take]; omega) (fun z hz => h z (List.mem_of_mem_take hz))
    obtain ⟨m', h2⟩ := leastL_fl key n ((x :: y :: l).drop ((x :: y :: l).length / 2)) (by rw [List.length_drop]; omega) (fun z hz => h z (List.mem_of_mem_drop hz))
    exact joinL_fl h1 h2
theorem leastL_ne (key : α → Int) : ∀ (n : Nat) (l : List (Tr α)), l ≠ [] → leastL key n l ≠ []
  | 0, _, h => h
  | n + 1, l, h => by
    unfold leastL
    split
    · exact h
    · next e =>
      exact joinL_ne (leastL_ne key n _ (by intro q; have q2 := congrArg List.length q; rw [List.length_take, List.length_nil] at q2; omega))
theorem leastL_len (key : α → Int) : ∀ (n : Nat) (l : List (Tr α)), (leastL key n l).length ≤ l.length
  | 0, _ => Nat.le_refl _
  | n + 1, l => by
    unfold leastL
    split
    · exact Nat.le_refl _
    · refine Nat.le_trans joinL_len ?_
      have h1 := leastL_len key n (l.take (l.length / 2))
      have h2 := leastL_len key n (l.drop (l.length / 2))
      rw [List.length_take] at h1; rw [List.length_drop] at h2; omega
end Go.Proofs.YtdcidlgmnnaahaaGreat
/- Plain queues: what is in one, in order; what Push and Pop do to it. -/
namespace Go.Proofs.YtdcidlgmnnaahaaGreat
variable {α : Type}
/-- Ahead: by the key, then by the turn. -/
def Ahd (key : α → Int) (x y : α × Int) : Prop := key x.1 < key y.1 ∨ key x.1 = key y.1 ∧ x.2 < y.2
/-- A queue's front F holds the elements L, in order; turns are below n. -/
structure QI (key : α → Int) (F : List (Tr α)) (L : List (α × Int)) (n : Int) : Prop where
  fl : ∃ m, Fl key m F
  st : F.Pairwise fun x y => x.t < y.t
  pm : (elsL F).Perm L
  so : L.Pairwise (Ahd key)
  lt : ∀ y ∈ L, y.2 < n
theorem QI.nil (key : α → Int) (n : Int) : QI key ([] : List (Tr α)) [] n := ⟨⟨0, Fl.nil⟩, List.Pairwise.nil, List.Perm.refl _, List.Pairwise.nil, fun _ h => by cases h⟩
theorem QI.empty {key : α → Int} {L : List (α × Int)} {n : Int} (h : QI key [] L n) : L = [] := (List.Perm.nil_eq h.pm).symm
theorem QI.head {key : α → Int} {x : Tr α} {F : List (Tr α)} {L : List (α × Int)} {n : Int} (h : QI key (x :: F) L n) : ∃ L2, L = (x.v, x.t) :: L2 ∧ (x.k.els ++ elsL F).Perm L2 := by
  obtain ⟨m, hm⟩ := h.fl
  have hx : (x.v, x.t) ∈ L := h.pm.mem_iff.1 (by rw [elsL_cons]; exact List.mem_cons_self ..)
  have pm := h.pm
  have so := h.so
  cases L with
  | nil => cases hx
  | cons y L2 =>
    have e : y = (x.v, x.t) := by
      rcases List.mem_cons.1 hx with e | hx
      · exact e.symm
      · exfalso
        have hy : y ∈ elsL (x :: F) := pm.mem_iff.2 (List.mem_cons_self ..)
        have a := (List.pairwise_cons.1 so).1 _ hx
        have ky := hm.els y hy
        have kx := (hm x (List.mem_cons_self ..)).1
        obtain ⟨z, hz, hyz⟩ := List.mem_flatMap.1 hy
        obtain ⟨z1, z2⟩ := hm z hz
        rcases List.mem_cons.1 hyz with rfl | hyz
        · rcases List.mem_cons.1 hz with rfl | hz
          · rcases a with a | a
            · exact absurd a (by show ¬ key z.v < key z.v; omega)
            · exact absurd a.2 (by show ¬ z.t < z.t; omega)
          · have := (List.pairwise_cons.1 h.st).1 z hz
            rcases a with a | a
            · exact absurd a (by show ¬ key z.v < key x.v; omega)
            · exact absurd a.2 (by show ¬ z.t < x.t; omega)
        · have := Fo.Up.els _ z2 y hyz
          rcases a with a | a
          · exact absurd a (by show ¬ key y.1 < key x.v; omega)
          · exact absurd a.1 (by show ¬ key y.1 = key x.v; omega)
    subst e
    exact ⟨L2, rfl, pm.cons_inv⟩
/-- What is behind the first one goes behind the last of the others. -/
theorem QI.pop {key : α → Int} {x : Tr α} {F : List (Tr α)} {L : List (α × Int)} {n : Int} (h : QI key (x :: F) L n) (hF : F ≠ []) : ∃ L2, L = (x.v, x.t) :: L2 ∧ QI key (onL x.k.toL F) L2 n := by
  obtain ⟨L2, rfl, pm⟩ := h.head
  obtain ⟨m, hm⟩ := h.fl
  obtain ⟨x1, x2⟩ := hm x (List.mem_cons_self ..)
  refine ⟨L2, rfl, ⟨m, onL_fl (hm.sub fun y hy => List.mem_cons_of_mem _ hy) (Fo.Up.toL _ x2)⟩, ?_, ?_, (List.pairwise_cons.1 h.so).2, fun y hy => h.lt y (List.mem_cons_of_mem _ hy)⟩
  · have s := (List.pairwise_cons.1 h.st).2
    have e : ∀ l : List (Tr α), l.Pairwise (fun x y => x.t < y.t) ↔ (l.map fun x => (x.v, x.t)).Pairwise (fun x y => x.2 < y.2) := fun l => by rw [List.pairwise_map]
    rw [e] at s ⊢
    rw [onL_ts]; exact s
  · refine (onL_els _ _ hF).trans ?_
    rw [elsL_toL]
    exact List.perm_append_comm.trans pm
/-- The last of the front is out: those behind it, sorted, are the front. -/
theorem QI.pop1 {key : α → Int} {x : Tr α} {L : List (α × Int)} {n : Int} (h : QI key [x] L n) {N : Nat} (hN : x.k.toL.length ≤ N + 1) {F : List (Tr α)} (hp : F.Perm (leastL key N x.k.toL)) (hs : F.Pairwise fun x y => x.t < y.t) : ∃ L2, L = (x.v, x.t) :: L2 ∧ QI key F L2 n := by
  obtain ⟨L2, rfl, pm⟩ := h.head
  obtain ⟨m, hm⟩ := h.fl
  obtain ⟨x1, x2⟩ := hm x (List.mem_cons_self ..)
  obtain ⟨m2, h2⟩ := leastL_fl key N x.k.toL hN (fun y hy => (Fo.Up.toL _ x2 y hy).2)
  refine ⟨L2, rfl, ⟨m2, h2.sub fun y hy => hp.mem_iff.1 hy⟩, hs, ?_, (List.pairwise_cons.1 h.so).2, fun y hy => h.lt y (List.mem_cons_of_mem _ hy)⟩
  refine (elsL_perm hp).trans ((leastL_els _ _ _).trans ?_)
  rw [elsL_toL]
  rw [elsL_nil, List.append_nil] at pm
  exact pm
/-- The front made anew, of single trees. -/
theorem QI.anew {key : α → Int} {T : List (Tr α)} {L : List (α × Int)} {n : Int} {N : Nat} (hN : T.length ≤ N + 1) (hT : ∀ x ∈ T, x.k = .nil) {F : List (Tr α)} (hp : F.Perm (leastL key N T)) (hs : F.Pairwise fun x y => x.t < y.t) (hl : (T.map fun x => (x.v, x.t)).Perm L) (so : L.Pairwise (Ahd key)) (lt : ∀ y ∈ L, y.2 < n) : QI key F L n := by
  obtain ⟨m2, h2⟩ := leastL_fl key N T hN (fun y hy => by rw [hT y hy]; trivial)
  refine ⟨⟨m2, h2.sub fun y hy => hp.mem_iff.1 hy⟩, hs, ?_, so, lt⟩
  refine (elsL_perm hp).trans ((leastL_els _ _ _).trans ?_)
  have e : ∀ T : List (Tr α), (∀ x ∈ T, x.k = .nil) → elsL T = T.map fun x => (x.v, x.t) := by
    intro T
    induction T with
    | nil => intro _; rfl
    | cons y T ih =>
      intro h
      rw [elsL_cons, h y (List.mem_cons_self ..), ih (fun z hz => h z (List.mem_cons_of_mem _ hz))]; rfl
  rw [e T hT]; exact hl
/-- v, pushed: behind all that it isn't ahead of. -/
def insK (key : α → Int) (v : α) (n : Int) : List (α × Int) → List (α × Int)
  | [] => [(v, n)]
  | y :: L => if key v < key y.1 then (v, n) :: y :: L else y :: insK key v n L
def insA (key : α → Int) (v : α) : List α → List α
  | [] => [v]
  | y :: L => if key v < key y then v :: y :: L else y :: insA key v L
theorem insK_map (key : α → Int) (v : α) (n : Int) : ∀ L : List (α × Int), (insK key v n L).map (·.1) = insA key v (L.map (·.1))
  | [] => rfl
  | y :: L => by
    simp only [insK, insA, List.map_cons]
    split
    · rfl
    · rw [List.map_cons, insK_map key v n L]
theorem insK_perm (key : α → Int) (v : α) (n : Int) : ∀ L : List (α × Int), (insK key v n L).Perm ((v, n) :: L)
  | [] => List.Perm.refl _
  | y :: L => by
    unfold insK
    split
    · exact List.Perm.refl _
    · exact ((insK_perm key v n L).cons y).trans (List.Perm.swap ..)
theorem insK_sorted (key : α → Int) (v : α) (n : Int) : ∀ L : List (α × Int), L.Pairwise (Ahd key) → (∀ y ∈ L, y.2 < n) → (insK key v n L).Pairwise (Ahd key)
  | [], _, _ => List.pairwise_singleton _ _
  | y :: L, h, hn => by
    obtain ⟨h1, h2⟩ := List.pairwise_cons.1 h
    unfold insK
    split
    · next e =>
      refine List.pairwise_cons.2 ⟨fun z hz => .inl ?_, h⟩
      rcases List.mem_cons.1 hz with rfl | hz
      · exact e
      · show key v < key z.1
        rcases h1 z hz with q | q
        · omega
        · have := q.1; omega
    · next e =>
      refine List.pairwise_cons.2 ⟨fun z hz => ?_, insK_sorted key v n L h2 fun z hz => hn z (List.mem_cons_of_mem _ hz)⟩
      rcases List.mem_cons.1 ((insK_perm key v n L).mem_iff.1 hz) with rfl | hz
      · have := hn y (List.mem_cons_self ..)
        by_cases q : key y.1 < key v
        · exact .inl q
        · exact .inr ⟨by show key y.1 = key v; omega, this⟩
      · exact h1 z hz
theorem insA_len (key : α → Int) (v : α) : ∀ L : List α, (insA key v L).length = L.length + 1
  | [] => rfl
  | y :: L => by
    unfold insA
    split
    · rfl
    · simp only [List.length_cons, insA_len key v L]
theorem QI.push {key : α → Int} {F : List (Tr α)} {L : List (α × Int)} {n : Int} (h : QI key F L n) (v : α) : QI key (joinL key F [⟨v, n, .nil⟩]) (insK key v n L) (n + 1) := by
  obtain ⟨m, hm⟩ := h.fl
  have one : Fl key (key v) [(⟨v, n, .nil⟩ : Tr α)] := Fl.one (x := ⟨v, n, .nil⟩) trivial
  refine ⟨joinL_fl hm one, ?_, ?_, insK_sorted key v n L h.so h.lt, fun y hy => ?_⟩
  · have e : ∀ l : List (Tr α), l.Pairwise (fun x y => x.t < y.t) ↔ (l.map fun x => (x.v, x.t)).Pairwise (fun x y => x.2 < y.2) := fun l => by rw [List.pairwise_map]
    unfold joinL
    split
    · exact List.pairwise_singleton _ _
    · split
      · exact h.st
      · split
        · rw [e, onL_ts, ← e]; exact h.st
        · split
          · rw [e, onL_ts]; exact List.pairwise_singleton _ _
          · refine List.pairwise_append.2 ⟨h.st, List.pairwise_singleton _ _, fun a ha b hb => ?_⟩
            obtain rfl := List.mem_singleton.1 hb
            exact h.lt (a.v, a.t) (h.pm.mem_iff.1 (List.mem_flatMap.2 ⟨a, ha, List.mem_cons_self ..⟩))
  · refine (joinL_els _ _ _).trans ?_
    refine List.Perm.trans ?_ (insK_perm key v n L).symm
    refine List.perm_append_comm.trans ?_
    exact h.pm.cons (v, n)
  · rcases List.mem_cons.1 ((insK_perm key v n L).mem_iff.1 hy) with rfl | hy
    · show n < n + 1; omega
    · have := h.lt y hy; omega
theorem QI.len {key : α → Int} {F : List (Tr α)} {L : List (α × Int)} {n : Int} (h : QI key F L n) : F.length ≤ L.length := by
  rw [← h.pm.length_eq]
  clear h
  induction F with
  | nil => simp
  | cons x F ih => rw [elsL_cons]; simp; omega
theorem elsL_len : ∀ l : List (Tr α), l.length ≤ (elsL l).length
  | [] => Nat.zero_le _
  | x :: l => by
    have := elsL_len l
    rw [elsL_cons]; simp only [List.length_cons, List.length_append]; omega
/-- Turns of one key that rise do so strictly. -/
theorem strict_of {key : α → Int} {F : List (Tr α)} {L : List (α × Int)} {m : Int} (hp : (elsL F).Perm L) (so : L.Pairwise (Ahd key)) (fl : Fl key m F) (le : F.Pairwise fun x y => x.t ≤ y.t) : F.Pairwise fun x y => x.t < y.t := by
  have h1 : L.Pairwise fun a b => ¬ (key a.1 = key b.1 ∧ a.2 = b.2) := so.imp fun {a b} h e => by
    rcases h with h | h
    · omega
    · omega
  have h2 : (elsL F).Pairwise fun a b => ¬ (key a.1 = key b.1 ∧ a.2 = b.2) := (hp.pairwise_iff (fun {a b} h e => h ⟨e.1.symm, e.2.symm⟩)).2 h1
  have h3 : ∀ F : List (Tr α), (F.map fun x => (x.v, x.t)).Sublist (elsL F) := by
    intro F
    induction F with
    | nil => exact List.Sublist.refl _
    | cons x F ih =>
      rw [elsL_cons, List.map_cons]
      exact (ih.trans (List.sublist_append_right _ _)).cons_cons _
  have h4 := h2.sublist (h3 F)
  rw [List.pairwise_map] at h4
  have h5 : F.Pairwise fun a b => a.t ≤ b.t ∧ ¬ (key a.v = key b.v ∧ a.t = b.t) := List.Pairwise.and le h4
  refine h5.imp_of_mem fun {a b} ha hb h => ?_
  have := (fl a ha).1
  have := (fl b hb).1
  have h6 : ¬ a.t = b.t := fun e => h.2 ⟨by omega, e⟩
  have := h.1
  omega
theorem QI.nilL {key : α → Int} {F : List (Tr α)} {n : Int} (h : QI key F [] n) : F = [] := by
  cases F with
  | nil => rfl
  | cons x F => obtain ⟨L2, e, _⟩ := h.head; cases e
end Go.Proofs.YtdcidlgmnnaahaaGreat
/- Trees of a queue in memory: rows of records, lists of trees; append. -/
namespace Go.Proofs.YtdcidlgmnnaahaaGreat.Qd
open Go.RowKit Go.Shelf Go.Lib
abbrev El := Du
abbrev ev (x : El) : Value := .agg #[.string x.u, .string x.w, .int .i64 x.t]
abbrev vc0 (x : El) : Value := .string x.u
abbrev vc1 (x : El) : Value := .string x.w
abbrev vc2 (x : El) : Value := .int .i64 x.t
abbrev ptrV (p : Option Nat) : Value := .pointer (p.map fun b => ⟨b, 0, none⟩)
/-- A tree as it lies: its value, its turn, the block of the list behind it. -/
structure Rec where
  v : El
  t : Int
  p : Option Nat
def Rec.val (x : Rec) : Value := .agg #[vc0 x.v, vc1 x.v, vc2 x.v, .int .i64 x.t, ptrV x.p]
def flat : List Rec → List Value
  | [] => []
  | x :: r => vc0 x.v :: vc1 x.v :: vc2 x.v :: .int .i64 x.t :: ptrV x.p :: flat r
theorem flat_len : ∀ xs, (flat xs).length = xs.length * 5
  | [] => rfl
  | x :: r => by simp [flat, flat_len r]; omega
theorem flat_app : ∀ xs ys, flat (xs ++ ys) = flat xs ++ flat ys
  | [], _ => rfl
  | x :: r, ys => by simp [flat, flat_app r ys]
theorem flat_one : ∀ xs, ∀ u ∈ flat xs, u.oneCell' = true
  | [], u, h => by cases h
  | x :: r, u, h => by
    simp only [flat, List.mem_cons] at h
    rcases h with rfl | rfl | rfl | rfl | rfl | h
    · rfl
    · rfl
    · rfl
    · rfl
    · rfl
    · exact flat_one r u h
theorem flat_at : ∀ (xs : List Rec) (j : Nat) (x : Rec), xs[j]? = some x → ((flat xs)[j * 5]? = some (vc0 x.v) ∧ (flat xs)[j * 5 + 1]? = some (vc1 x.v) ∧ (flat xs)[j * 5 + 2]? = some (vc2 x.v)) ∧ (flat xs)[j * 5 + 3]? = some (.int .i64 x.t) ∧ (flat xs)[j * 5 + 4]? = some (ptrV x.p)
  | [], j, x, h => by cases h
  | y :: r, 0, x, h => by simp at h; subst h; exact ⟨⟨rfl, rfl, rfl⟩, rfl, rfl⟩
  | y :: r, j + 1, x, h => by
    have := flat_at r j x (by simpa using h)
    rw [show (j + 1) * 5 = j * 5 + 5 by omega, show j * 5 + 5 + 1 = j * 5 + 1 + 5 by omega, show j * 5 + 5 + 2 = j * 5 + 2 + 5 by omega, show j * 5 + 5 + 3 = j * 5 + 3 + 5 by omega, show j * 5 + 5 + 4 = j * 5 + 4 + 5 by omega]
    exact this
theorem infoT : ∃ i, Tryz.prog.info? 122 = some i ∧ i.zero = some (.agg #[.string ⟨#[]⟩, .string ⟨#[]⟩, .int .i64 0, .int .i64 0, .pointer none]) ∧ i.size = 5 ∧ i.bytes = 56 := by
  have h : (Tryz.prog.info? 122).map (fun i => (i.zero, i.size, i.bytes)) = some (some (.agg #[.string ⟨#[]⟩, .string ⟨#[]⟩, .int .i64 0, .int .i64 0, .pointer none]), 5, 56) := by kernel_rfl
  cases e : Tryz.prog.info? 122 with
  | none => rw [e] at h; cases h
  | some i => rw [e] at h; simp at h; exact ⟨i, rfl, h⟩

/-- The records xs lie in block g from o on. -/
def RA (w : World) (g o : Nat) (xs : List Rec) : Prop := ∀ j u, (flat xs)[j]? = some u → w.cell? ⟨g, o + j, none⟩ = some u
/-- There is room for cap records. -/
structure Rm (w : World) (g o cap : Nat) : Prop where
  lt : g < w.heap.size
  mx : cap ≤ maxLen
  so : ∀ j, j < cap * 5 → (w.cell? ⟨g, o + j, none⟩).isSome = true
  fz : ∀ j, j < cap * 5 → w.frozen? ⟨g, o + j, none⟩ = false
theorem RA.nil (w : World) (g o : Nat) : RA w g o [] := fun j u h => by cases h
theorem RA.cv {S : Nat → Nat → Prop} {w w' : World} {g o : Nat} {xs : List Rec} (h : RA w g o xs) (m : Cv S w w') (hn : ∀ j, o ≤ j → j < o + xs.length * 5 → ¬ S g j) : RA w' g o xs := fun j u hj => by
  have hl : j < xs.length * 5 := by rw [← flat_len]; exact (List.getElem?_eq_some_iff.1 hj).1
  exact m.cell (hn _ (by omega) (by omega)) (h j u hj)
theorem Rm.cv {S : Nat → Nat → Prop} {w w' : World} {g o cap : Nat} (h : Rm w g o cap) (m : Cv S w w') : Rm w' g o cap :=
  ⟨Nat.lt_of_lt_of_le h.lt m.size, h.mx, fun j hj => m.pr _ _ h.lt (h.so j hj), fun j hj => (m.fr _ _ h.lt).trans (h.fz j hj)⟩
theorem Rm.sub {w : World} {g o cap : Nat} (h : Rm w g o cap) {a c : Nat} (hc : a + c ≤ cap) : Rm w g (o + a * 5) c :=
  ⟨h.lt, Nat.le_trans (by omega) h.mx, fun j hj => by rw [Nat.add_assoc]; exact h.so _ (by omega), fun j hj => by rw [Nat.add_assoc]; exact h.fz _ (by omega)⟩
theorem RA.app {w : World} {g o : Nat} {xs ys : List Rec} : RA w g o (xs ++ ys) ↔ RA w g o xs ∧ RA w g (o + xs.length * 5) ys := by
  unfold RA
  rw [flat_app]
  constructor
  · intro h
    refine ⟨fun j u hj => h j u (by rw [List.getElem?_append_left (List.getElem?_eq_some_iff.1 hj).1]; exact hj), fun j u hj => ?_⟩
    rw [Nat.add_assoc]
    exact h _ u (by rw [List.getElem?_append_right (by rw [flat_len]; omega), flat_len, show xs.length * 5 + j - xs.length * 5 = j by omega]; exact hj)
  · rintro ⟨h1, h2⟩ j u hj
    rcases Nat.lt_or_ge j (xs.length * 5) with hl | hl
    · exact h1 j u (by rw [List.getElem?_append_left (by rw [flat_len]; exact hl)] at hj; exact hj)
    · rw [List.getElem?_append_right (by rw [flat_len]; exact hl), flat_len] at hj
      have := h2 _ u hj
      rw [Nat.add_assoc, show xs.length * 5 + (j - xs.length * 5) = j by omega] at this
      exact this
theorem RA.at {w : World} {g o : Nat} {xs : List Rec} (h : RA w g o xs) {j : Nat} {x : Rec} (hx : xs[j]? = some x) :
    (w.cell? ⟨g, o + j * 5, none⟩ = some (vc0 x.v) ∧ w.cell? ⟨g, o + j * 5 + 1, none⟩ = some (vc1 x.v) ∧ w.cell? ⟨g, o + j * 5 + 2, none⟩ = some (vc2 x.v)) ∧ w.cell? ⟨g, o + j * 5 + 3, none⟩ = some (.int .i64 x.t) ∧ w.cell? ⟨g, o + j * 5 + 4, none⟩ = some (ptrV x.p) := by
  obtain ⟨h1, h2, h3⟩ := flat_at xs j x hx
  exact ⟨⟨h _ _ h1.1, h _ _ h1.2.1, h _ _ h1.2.2⟩, h _ _ h2, h _ _ h3⟩
/-- A slice of records. -/
structure RS (w : World) (g o cap : Nat) (xs : List Rec) : Prop where
  le : xs.length ≤ cap
  rm : Rm w g o cap
  ra : RA w g o xs
abbrev slv (g o n cap : Nat) : Value := .slice (some ⟨g, o, none⟩) n cap
theorem RS.cv {S : Nat → Nat → Prop} {w w' : World} {g o cap : Nat} {xs : List Rec} (h : RS w g o cap xs) (m : Cv S w w') (hn : ∀ j, o ≤ j → j < o + xs.length * 5 → ¬ S g j) : RS w' g o cap xs := ⟨h.le, h.rm.cv m, h.ra.cv m hn⟩
theorem RS.own {w : World} {v : Value} {base : Nat} {e : TypeId} {xs : List Rec} (h : w.ownsRow base e 5 v xs.length (flat xs)) (h0 : xs ≠ []) : ∃ g cap, v = slv g 0 xs.length cap ∧ base ≤ g ∧ RS w g 0 cap xs := by
  rcases h.2 with ⟨rfl, h1⟩ | ⟨g, cap, cur, rfl, hb, hg, h1, h2, h3, h4⟩
  · exact absurd (List.eq_nil_of_length_eq_zero h1) h0
  · refine ⟨g, cap, rfl, hb, h1, ⟨(Array.getElem?_eq_some_iff.1 hg).1, h2, fun j hj => ?_, fun j hj => ?_⟩, fun j x hx => ?_⟩
    · unfold World.cell?
      rw [hg]
      have : j < cur.size := by rw [h3]; omega
      simp [this]
    · unfold World.frozen?
      rw [hg]
      simp
    · have := h.cells (g := g) rfl j x hx
      rw [Addr.add_lit] at this
      exact this
theorem app_room {w : World} {g o cap : Nat} {xs ys : List Rec} (h : RS w g o cap xs) {g2 o2 c2 : Nat} (hy : RA w g2 o2 ys) (hr : xs.length + ys.length ≤ cap) (ty : TypeId) :
    ∃ w', (Builtin.append_ #[114, 114] ty #[slv g o xs.length cap, slv g2 o2 ys.length c2]).run Tryz.prog w = .ok (slv g o (xs.length + ys.length) cap) w' ∧ RS w' g o cap (xs ++ ys) ∧ Cv (fun k j => k = g ∧ o + xs.length * 5 ≤ j ∧ j < o + (xs.length + ys.length) * 5) w w' := by
  obtain ⟨i0, hi, hz0, hz1, hz2⟩ := infoT
  have hrun := run_append_room_cells (P := Tryz.prog) w 114 ty 122 _ Tryz.underlying114 hi g o xs.length cap ⟨g2, o2, none⟩ ys.length c2 (flat ys) (by rw [hz1, flat_len]) (fun j u hj => by rw [Addr.add_lit]; exact hy j u hj) (flat_one ys) hr (fun j hj => by rw [flat_len] at hj; rw [hz1, Nat.add_assoc]; exact h.rm.so _ (by omega)) (fun j hj => by rw [flat_len] at hj; rw [hz1, Nat.add_assoc]; exact h.rm.fz _ (by omega))
  rw [hz1] at hrun
  have hth : ∀ j, j < (flat ys).length → (w.cell? ⟨g, o + xs.length * 5 + j, none⟩).isSome = true := fun j hj => by rw [flat_len] at hj; rw [Nat.add_assoc]; exact h.rm.so _ (by omega)
  have m := Cv.cells w g (o + xs.length * 5) (flat ys)
  rw [flat_len] at m
  have m2 : Cv (fun k j => k = g ∧ o + xs.length * 5 ≤ j ∧ j < o + (xs.length + ys.length) * 5) w (w.setCells g (o + xs.length * 5) (flat ys)) := m.mono fun k j _ h => ⟨h.1, h.2.1, by have := h.2.2; omega⟩
  refine ⟨_, hrun, ⟨by rw [List.length_append]; exact hr, h.rm.cv m2, RA.app.2 ⟨h.ra.cv m2 (fun j _ hj q => by have := q.2.1; omega), fun j u hj => ?_⟩⟩, m2⟩
  obtain ⟨hlt, hge⟩ := List.getElem?_eq_some_iff.1 hj
  rw [World.cell?_setCells_in g _ _ w hth j hlt, hge]
theorem app_grow {w : World} {g o cap : Nat} {xs ys : List Rec} (h : RS w g o cap xs) {g2 o2 c2 : Nat} (hy : RA w g2 o2 ys) (hr : cap < xs.length + ys.length) (hx : xs.length ≤ 1000000) (hyl : ys.length ≤ 1000000) (ty : TypeId) :
    ∃ g' c' w', (Builtin.append_ #[114, 114] ty #[slv g o xs.length cap, slv g2 o2 ys.length c2]).run Tryz.prog w = .ok (slv g' 0 (xs.length + ys.length) c') w' ∧ w.heap.size ≤ g' ∧ RS w' g' 0 c' (xs ++ ys) ∧ Below w.heap.size w w' := by
  obtain ⟨i0, hi, hz0, hz1, hz2⟩ := infoT
  obtain ⟨v', w', hrun, ho, hgr⟩ := run_append_arg_grows (P := Tryz.prog) w 114 ty 122 _ _ 5 56 Tryz.underlying114 hi hz0 hz1 hz2 rfl (by decide) ⟨g, o, none⟩ xs.length cap (flat xs) (flat_len xs) (fun j u hj => by rw [Addr.add_lit]; exact h.ra j u hj) ⟨g2, o2, none⟩ ys.length c2 (flat ys) (flat_len ys) (fun j u hj => by rw [Addr.add_lit]; exact hy j u hj) hr (by unfold maxLen; omega) (by omega)
  rw [← flat_app, ← List.length_append] at ho
  obtain ⟨g', c', rfl, hb, hs⟩ := RS.own ho (by intro e; have := congrArg List.length e; rw [List.length_append, List.length_nil] at this; omega)
  rw [List.length_append] at hrun
  exact ⟨g', c', w', hrun, hb, hs, ((Mv.refl (fun _ => False) w).grown hgr (fun k e => by cases e)).toBelow (Nat.le_refl _) (fun _ _ h => h)⟩
theorem app_nil {w : World} {ys : List Rec} {g2 o2 c2 : Nat} (hy : RA w g2 o2 ys) (hy0 : ys ≠ []) (hyl : ys.length ≤ 1000000) (ty : TypeId) :
    ∃ g' c' w', (Builtin.append_ #[114, 114] ty #[.slice none 0 0, slv g2 o2 ys.length c2]).run Tryz.prog w = .ok (slv g' 0 ys.length c') w' ∧ w.heap.size ≤ g' ∧ RS w' g' 0 c' ys ∧ Below w.heap.size w w' := by
  obtain ⟨i0, hi, hz0, hz1, hz2⟩ := infoT
  obtain ⟨v', w', hrun, ho, hgr, _, hat⟩ := run_append_own_at (P := Tryz.prog) w w.heap.size 114 ty 122 _ _ 5 56 Tryz.underlying114 hi hz0 hz1 hz2 rfl (by decide) (.slice none 0 0) 0 [] (World.ownsRow_nil w _ _ _) ⟨g2, o2, none⟩ ys.length c2 (flat ys) (flat_len ys) (fun j u hj => by rw [Addr.add_lit]; exact hy j u hj) (flat_one ys) (by unfold maxLen; omega) (by omega) (Nat.le_refl _)
  rw [Nat.zero_add, List.nil_append] at ho
  obtain ⟨g', c', rfl, hb, hs⟩ := RS.own ho hy0
  exact ⟨g', c', w', hrun, hb, hs, ((Mv.refl (fun _ => False) w).grown hgr (fun k e => by cases e)).toBelow (Nat.le_refl _) (fun _ _ h => h)⟩
theorem app_none {w : World} {g o cap : Nat} {xs : List Rec} (h : RS w g o cap xs) (p : Option Addr) (c2 : Nat) (ty : TypeId) :
    (Builtin.append_ #[114, 114] ty #[slv g o xs.length cap, .slice p 0 c2]).run Tryz.prog w = .ok (slv g o xs.length cap) w := by
  obtain ⟨i0, hi, hz0, hz1, hz2⟩ := infoT
  have hle := h.le
  cases p <;> simp [Builtin.append_, run_underlying Tryz.underlying114, sizeOf, typeInfo, hi, Builtin.lenOf, Builtin.firstCells, loadCells, loadCellsFrom, storeCells, hle]
/-- clear of n records. -/
theorem run_clearR (w : World) (ty : TypeId) {g o n c : Nat} (h : Rm w g o (n + 1)) :
    ∃ vs : List Value, vs.length = (n + 1) * 5 ∧ (Builtin.clear_ #[114] ty #[slv g o (n + 1) c]).run Tryz.prog w = .ok (.tuple #[]) (w.setCells g o vs) := by
  have hz : ∀ w, (zeroValue 122).run Tryz.prog w = .ok (.agg #[.string ⟨#[]⟩, .string ⟨#[]⟩, .int .i64 0, .int .i64 0, .pointer none]) w := fun w => by kernel_rfl
  obtain ⟨vs, hvs⟩ : ∃ vs, (Builtin.zeroCells (Value.agg #[.string ⟨#[]⟩, .string ⟨#[]⟩, .int .i64 0, .int .i64 0, .pointer none]).cells (n + 1)).toList = vs := ⟨_, rfl⟩
  have hl : vs.length = (n + 1) * 5 := by rw [← hvs, Array.length_toList, size_zeroCells]; rfl
  have h1 : ∀ u ∈ vs, u.oneCell' = true := by
    intro u hu
    rw [← hvs, Array.mem_toList_iff] at hu
    unfold Builtin.zeroCells at hu
    obtain ⟨i, _, rfl⟩ := Array.mem_map.1 hu
    have e : (Value.agg #[.string ⟨#[]⟩, .string ⟨#[]⟩, .int .i64 0, .int .i64 0, .pointer none]).cells = #[.string ⟨#[]⟩, .string ⟨#[]⟩, .int .i64 0, .int .i64 0, .pointer none] := rfl
    rw [e]
    have : i % 5 = 0 ∨ i % 5 = 1 ∨ i % 5 = 2 ∨ i % 5 = 3 ∨ i % 5 = 4 := by omega
    show (#[.string ⟨#[]⟩, .string ⟨#[]⟩, .int .i64 0, Value.int .i64 0, Value.pointer none][i % 5]!).oneCell' = true
    rcases this with q | q | q | q | q <;> rw [q] <;> rfl
  have hst := run_storeCells_cells (P := Tryz.prog) g o vs 0 w (by rw [hl]; simpa using h.so) (by rw [hl]; simpa using h.fz) h1
  simp only [Nat.add_zero] at hst
  refine ⟨vs, hl, ?_⟩
  simp [Builtin.clear_, run_underlying Tryz.underlying114, hz, hvs, hst]
/-- The list at p holds the trees f; its blocks are of B. -/
def LR (w : World) (B : Nat → Prop) : Fo El → Option Nat → Prop
  | .nil, p => p = none
  | .cons v t k r, p => ∃ b pk pr, p = some b ∧ B b ∧ (w.cell? ⟨b, 0, none⟩ = some (vc0 v) ∧ w.cell? ⟨b, 1, none⟩ = some (vc1 v) ∧ w.cell? ⟨b, 2, none⟩ = some (vc2 v)) ∧ w.cell? ⟨b, 3, none⟩ = some (.int .i64 t) ∧ w.cell? ⟨b, 4, none⟩ = some (ptrV pk) ∧ w.cell? ⟨b, 5, none⟩ = some (ptrV pr) ∧ LR w B k pk ∧ LR w B r pr
theorem LR.cv {S : Nat → Nat → Prop} {w w' : World} {B B' : Nat → Prop} (m : Cv S w w') (hB : ∀ k, B k → B' k) (hS : ∀ k, B k → ∀ j, ¬ S k j) : ∀ (f : Fo El) (p : Option Nat), LR w B f p → LR w' B' f p
  | .nil, _, h => h
  | .cons v t k r, p, h => by
    obtain ⟨b, pk, pr, rfl, hb, c0, c1, c2, c3, hk, hr⟩ := h
    exact ⟨b, pk, pr, rfl, hB b hb, ⟨m.cell (hS b hb 0) c0.1, m.cell (hS b hb 1) c0.2.1, m.cell (hS b hb 2) c0.2.2⟩, m.cell (hS b hb 3) c1, m.cell (hS b hb 4) c2, m.cell (hS b hb 5) c3, LR.cv m hB hS k pk hk, LR.cv m hB hS r pr hr⟩
/-- Records and the trees that they are. -/
def RF (w : World) (B : Nat → Prop) : List Rec → List (Tr El) → Prop
  | [], [] => True
  | x :: xs, y :: ys => (x.v = y.v ∧ x.t = y.t ∧ LR w B y.k x.p) ∧ RF w B xs ys
  | _, _ => False
theorem RF.cv {S : Nat → Nat → Prop} {w w' : World} {B B' : Nat → Prop} (m : Cv S w w') (hB : ∀ k, B k → B' k) (hS : ∀ k, B k → ∀ j, ¬ S k j) : ∀ (xs : List Rec) (ys : List (Tr El)), RF w B xs ys → RF w' B' xs ys
  | [], [], _ => trivial
  | _ :: xs, _ :: ys, h => ⟨⟨h.1.1, h.1.2.1, LR.cv m hB hS _ _ h.1.2.2⟩, RF.cv m hB hS xs ys h.2⟩
  | [], _ :: _, h => h.elim
  | _ :: _, [], h => h.elim
theorem RF.len {w : World} {B : Nat → Prop} : ∀ {xs : List Rec} {ys : List (Tr El)}, RF w B xs ys → xs.length = ys.length
  | [], [], _ => rfl
  | _ :: _, _ :: _, h => by simp only [List.length_cons, RF.len h.2]
  | [], _ :: _, h => h.elim
  | _ :: _, [], h => h.elim
theorem RF.app {w : World} {B : Nat → Prop} : ∀ {xs : List Rec} {ys : List (Tr El)} {xs2 : List Rec} {ys2 : List (Tr El)}, RF w B xs ys → RF w B xs2 ys2 → RF w B (xs ++ xs2) (ys ++ ys2)
  | [], [], _, _, _, h => h
  | _ :: _, _ :: _, _, _, h, h2 => ⟨h.1, RF.app h.2 h2⟩
  | [], _ :: _, _, _, h, _ => h.elim
  | _ :: _, [], _, _, h, _ => h.elim
theorem RF.split {w : World} {B : Nat → Prop} : ∀ {xs : List Rec} {ys ys2 : List (Tr El)}, RF w B xs (ys ++ ys2) → ∃ a b, xs = a ++ b ∧ RF w B a ys ∧ RF w B b ys2
  | xs, [], _, h => ⟨[], xs, rfl, trivial, h⟩
  | [], _ :: _, _, h => h.elim
  | x :: xs, y :: ys, _, h => by
    obtain ⟨a, b, rfl, h1, h2⟩ := RF.split (xs := xs) (ys := ys) h.2
    exact ⟨x :: a, b, rfl, ⟨h.1, h1⟩, h2⟩
theorem RF.mem {w : World} {B : Nat → Prop} {key : El → Int} {q : Int → Prop} : ∀ {xs : List Rec} {ys : List (Tr El)}, RF w B xs ys → (∀ y ∈ ys, q (key y.v)) → ∀ x ∈ xs, q (key x.v)
  | [], [], _, _, x, hx => by cases hx
  | x :: xs, y :: ys, h, hq, z, hz => by
    rcases List.mem_cons.1 hz with rfl | hz
    · rw [h.1.1]; exact hq y (List.mem_cons_self ..)
    · exact RF.mem h.2 (fun y hy => hq y (List.mem_cons_of_mem _ hy)) z hz
  | [], _ :: _, h, _, _, _ => h.elim
  | _ :: _, [], h, _, _, _ => h.elim
end Go.Proofs.YtdcidlgmnnaahaaGreat.Qd
