/- Plain queues: forests by keys, joined, by halves; what stays in order. -/
import Derived.Test.YtcjlkhgnohdonaaIt
namespace Go.Proofs.Ytcjlkhgnohdonaa
/-- Trees behind a tree. -/
inductive Fo (α : Type) where
  | nil : Fo α
  | cons (v : α) (t : Int) (k r : Fo α) : Fo α
structure Tr (α : Type) where
  v : α
  t : Int
  k : Fo α
variable {α : Type}
def Fo.toL : Fo α → List (Tr α)
  | .nil => []
  | .cons v t k r => ⟨v, t, k⟩ :: r.toL
def Fo.els : Fo α → List (α × Int)
  | .nil => []
  | .cons v t k r => (v, t) :: (k.els ++ r.els)
def elsL (l : List (Tr α)) : List (α × Int) := l.flatMap fun x => (x.v, x.t) :: x.k.els
theorem elsL_nil : elsL ([] : List (Tr α)) = [] := rfl
theorem elsL_cons (x : Tr α) (l : List (Tr α)) : elsL (x :: l) = (x.v, x.t) :: (x.k.els ++ elsL l) := rfl
theorem elsL_app (a b : List (Tr α)) : elsL (a ++ b) = elsL a ++ elsL b := by simp [elsL]
theorem elsL_toL : ∀ f : Fo α, elsL f.toL = f.els
  | .nil => rfl
  | .cons v t k r => by
    rw [Fo.toL, elsL_cons, elsL_toL r]; rfl
theorem elsL_perm {a b : List (Tr α)} (h : a.Perm b) : (elsL a).Perm (elsL b) := h.flatMap_right _
/-- All keys are above m, and each tree's are above its own. -/
def Fo.Up (key : α → Int) : Int → Fo α → Prop
  | _, .nil => True
  | m, .cons v _ k r => m < key v ∧ k.Up key (key v) ∧ r.Up key m
theorem Fo.Up.mono {key : α → Int} : ∀ (f : Fo α) {m m' : Int}, f.Up key m → m' ≤ m → f.Up key m'
  | .nil, _, _, _, _ => trivial
  | .cons _ _ _ r, _, _, h, e => ⟨by have := h.1; omega, h.2.1, Fo.Up.mono r h.2.2 e⟩
theorem Fo.Up.els {key : α → Int} : ∀ (f : Fo α) {m : Int}, f.Up key m → ∀ y ∈ f.els, m < key y.1
  | .nil, _, _, y, hy => by cases hy
  | .cons v t k r, m, h, y, hy => by
    rcases List.mem_cons.1 hy with rfl | hy
    · exact h.1
    · rcases List.mem_append.1 hy with hy | hy
      · have := Fo.Up.els k h.2.1 y hy; have := h.1; omega
      · exact Fo.Up.els r h.2.2 y hy
theorem Fo.Up.toL {key : α → Int} : ∀ (f : Fo α) {m : Int}, f.Up key m → ∀ x ∈ f.toL, m < key x.v ∧ x.k.Up key (key x.v)
  | .nil, _, _, x, hx => by cases hx
  | .cons v t k r, m, h, x, hx => by
    rcases List.mem_cons.1 hx with rfl | hx
    · exact ⟨h.1, h.2.1⟩
    · exact Fo.Up.toL r h.2.2 x hx
/-- A row of trees of one key. -/
def Fl (key : α → Int) (m : Int) (l : List (Tr α)) : Prop := ∀ x ∈ l, key x.v = m ∧ x.k.Up key m
theorem Fl.nil {key : α → Int} {m : Int} : Fl key m ([] : List (Tr α)) := fun _ h => by cases h
theorem Fl.one {key : α → Int} {x : Tr α} (h : x.k.Up key (key x.v)) : Fl key (key x.v) [x] := fun y hy => by
  obtain rfl := List.mem_singleton.1 hy
  exact ⟨rfl, h⟩
theorem Fl.app {key : α → Int} {m : Int} {a b : List (Tr α)} (ha : Fl key m a) (hb : Fl key m b) : Fl key m (a ++ b) := fun x hx => (List.mem_append.1 hx).elim (ha x) (hb x)
theorem Fl.sub {key : α → Int} {m : Int} {a b : List (Tr α)} (ha : Fl key m a) (h : ∀ x ∈ b, x ∈ a) : Fl key m b := fun x hx => ha x (h x hx)
theorem Fl.els {key : α → Int} {m : Int} {l : List (Tr α)} (h : Fl key m l) : ∀ y ∈ elsL l, m ≤ key y.1 := fun y hy => by
  obtain ⟨x, hx, hy⟩ := List.mem_flatMap.1 hy
  obtain ⟨h1, h2⟩ := h x hx
  rcases List.mem_cons.1 hy with rfl | hy
  · show m ≤ key x.v; omega
  · have := Fo.Up.els _ h2 y hy; omega
/-- Trees, one by one, behind a tree: the last one stands first. -/
def putF (ts : List (Tr α)) (k : Fo α) : Fo α := ts.foldl (fun j t => .cons t.v t.t t.k j) k
theorem putF_cons (x : Tr α) (ts : List (Tr α)) (k : Fo α) : putF (x :: ts) k = putF ts (.cons x.v x.t x.k k) := rfl
theorem putF_els : ∀ (ts : List (Tr α)) (k : Fo α), (putF ts k).els.Perm (elsL ts ++ k.els)
  | [], _ => List.Perm.refl _
  | x :: ts, k => by
    rw [putF_cons]
    refine (putF_els ts _).trans ?_
    rw [elsL_cons]
    show (elsL ts ++ (x.v, x.t) :: (x.k.els ++ k.els)).Perm ((x.v, x.t) :: (x.k.els ++ elsL ts) ++ k.els)
    refine List.perm_middle.trans ?_
    rw [List.cons_append]
    refine List.Perm.cons _ ?_
    rw [← List.append_assoc]
    exact List.Perm.append_right _ List.perm_append_comm
theorem putF_up {key : α → Int} {m : Int} : ∀ (ts : List (Tr α)) (k : Fo α), (∀ x ∈ ts, m < key x.v ∧ x.k.Up key (key x.v)) → k.Up key m → (putF ts k).Up key m
  | [], _, _, h => h
  | x :: ts, _, hs, h => putF_up ts _ (fun y hy => hs y (List.mem_cons_of_mem _ hy)) ⟨(hs x (List.mem_cons_self ..)).1, (hs x (List.mem_cons_self ..)).2, h⟩
/-- The last one of a row with trees put behind it. -/
def onL (ts : List (Tr α)) : List (Tr α) → List (Tr α)
  | [] => []
  | [x] => [⟨x.v, x.t, putF ts x.k⟩]
  | x :: y :: l => x :: onL ts (y :: l)
theorem onL_len (ts : List (Tr α)) : ∀ l : List (Tr α), (onL ts l).length = l.length
  | [] => rfl
  | [_] => rfl
  | x :: y :: l => by simp only [onL, List.length_cons]; have := onL_len ts (y :: l); simp only [List.length_cons] at this; omega
theorem onL_snoc (ts : List (Tr α)) : ∀ (l : List (Tr α)) (x : Tr α), onL ts (l ++ [x]) = l ++ [⟨x.v, x.t, putF ts x.k⟩]
  | [], x => rfl
  | [y], x => rfl
  | y :: z :: l, x => by
    show y :: onL ts ((z :: l) ++ [x]) = _
    rw [onL_snoc ts (z :: l) x]; rfl
theorem snoc_of : ∀ {l : List (Tr α)}, l ≠ [] → ∃ a x, l = a ++ [x] := fun {l} h => ⟨l.dropLast, l.getLast h, (List.dropLast_concat_getLast h).symm⟩
theorem onL_els (ts : List (Tr α)) (l : List (Tr α)) (h : l ≠ []) : (elsL (onL ts l)).Perm (elsL l ++ elsL ts) := by
  obtain ⟨a, x, rfl⟩ := snoc_of h
  rw [onL_snoc, elsL_app, elsL_app, List.append_assoc]
  refine List.Perm.append_left _ ?_
  show ((x.v, x.t) :: ((putF ts x.k).els ++ [])).Perm ((x.v, x.t) :: (x.k.els ++ []) ++ elsL ts)
  rw [List.append_nil, List.append_nil, List.cons_append]
  exact List.Perm.cons _ ((putF_els ts _).trans List.perm_append_comm)
theorem onL_fl {key : α → Int} {m : Int} {ts l : List (Tr α)} (hl : Fl key m l) (hs : ∀ x ∈ ts, m < key x.v ∧ x.k.Up key (key x.v)) : Fl key m (onL ts l) := by
  by_cases h : l = []
  · subst h; exact Fl.nil
  · obtain ⟨a, x, rfl⟩ := snoc_of h
    rw [onL_snoc]
    refine Fl.app (hl.sub fun y hy => List.mem_append_left _ hy) ?_
    intro y hy
    obtain rfl := List.mem_singleton.1 hy
    obtain ⟨h1, h2⟩ := hl x (by simp)
    exact ⟨h1, putF_up _ _ hs h2⟩
theorem onL_ts (ts : List (Tr α)) : ∀ l : List (Tr α), (onL ts l).map (fun x => (x.v, x.t)) = l.map (fun x => (x.v, x.t))
  | [] => rfl
  | [_] => rfl
  | x :: y :: l => by
    show _ :: (onL ts (y :: l)).map _ = _ :: (y :: l).map _
    rw [onL_ts ts (y :: l)]
/-- The first key of a row. -/
def keyL (key : α → Int) : List (Tr α) → Int
  | [] => 0
  | x :: _ => key x.v
theorem Fl.keyL {key : α → Int} {m : Int} {l : List (Tr α)} (h : Fl key m l) (hn : l ≠ []) : keyL key l = m := by
  cases l with
  | nil => exact absurd rfl hn
  | cons x l => exact (h x (List.mem_cons_self ..)).1
/-- Two rows to one. -/
def joinL (key : α → Int) (a b : List (Tr α)) : List (Tr α) :=
  if a = [] then b else if b = [] then a
  else if keyL key a < keyL key b then onL b a
  else if keyL key b < keyL key a then onL a b
  else a ++ b
theorem joinL_els (key : α → Int) (a b : List (Tr α)) : (elsL (joinL key a b)).Perm (elsL a ++ elsL b) := by
  unfold joinL
  split
  · next h => subst h; exact List.Perm.refl _
  · next ha =>
    split
    · next h => subst h; rw [elsL_nil, List.append_nil]
    · next hb =>
      split
      · exact onL_els b a ha
      · split
        · exact (onL_els a b hb).trans List.perm_append_comm
        · rw [elsL_app]
theorem up_of_fl {key : α → Int} {m m' : Int} {l : List (Tr α)} (h : Fl key m' l) (e : m < m') : ∀ x ∈ l, m < key x.v ∧ x.k.Up key (key x.v) := fun x hx => by
  obtain ⟨h1, h2⟩ := h x hx
  exact ⟨by omega, by rw [h1]; exact h2⟩
theorem joinL_fl {key : α → Int} {a b : List (Tr α)} {m m' : Int} (ha : Fl key m a) (hb : Fl key m' b) : ∃ m2, Fl key m2 (joinL key a b) := by
  unfold joinL
  split
  · exact ⟨_, hb⟩
  · next na =>
    split
    · exact ⟨_, ha⟩
    · next nb =>
      rw [ha.keyL na, hb.keyL nb]
      split
      · next e => exact ⟨m, onL_fl ha (up_of_fl hb e)⟩
      · split
        · next e => exact ⟨m', onL_fl hb (up_of_fl ha e)⟩
        · have e : m = m' := by omega
          subst e
          exact ⟨m, ha.app hb⟩
theorem joinL_ne {key : α → Int} {a b : List (Tr α)} (ha : a ≠ []) : joinL key a b ≠ [] := by
  intro h
  have e := congrArg List.length h
  have l1 : 0 < a.length := List.length_pos_iff.2 ha
  unfold joinL at e
  rw [if_neg ha] at e
  split at e
  · rw [List.length_nil] at e; omega
  · next nb =>
    have l2 : 0 < b.length := List.length_pos_iff.2 nb
    split at e
    · rw [onL_len, List.length_nil] at e; omega
    · split at e
      · rw [onL_len, List.length_nil] at e; omega
      · rw [List.length_append, List.length_nil] at e; omega
theorem joinL_len {key : α → Int} {a b : List (Tr α)} : (joinL key a b).length ≤ a.length + b.length := by
  unfold joinL
  split
  · omega
  · split
    · omega
    · split
      · rw [onL_len]; omega
      · split
        · rw [onL_len]; omega
        · simp
/-- The least ones of a row, by halves. -/
def leastL (key : α → Int) : Nat → List (Tr α) → List (Tr α)
  | 0, l => l
  | n + 1, l => if l.length < 2 then l else joinL key (leastL key n (l.take (l.length / 2))) (leastL key n (l.drop (l.length / 2)))
theorem leastL_els (key : α → Int) : ∀ (n : Nat) (l : List (Tr α)), (elsL (leastL key n l)).Perm (elsL l)
  | 0, l => List.Perm.refl _
  | n + 1, l => by
    unfold leastL
    split
    · exact List.Perm.refl _
    · refine (joinL_els _ _ _).trans ?_
      refine ((leastL_els key n _).append (leastL_els key n _)).trans ?_
      rw [← elsL_app, List.take_append_drop]
theorem leastL_fl (key : α → Int) : ∀ (n : Nat) (l : List (Tr α)), l.length ≤ n + 1 → (∀ x ∈ l, x.k.Up key (key x.v)) → ∃ m, Fl key m (leastL key n l)
  | n, [], _, _ => by
    refine ⟨0, ?_⟩
    cases n <;> exact Fl.nil
  | n, [x], _, h => by
    refine ⟨key x.v, ?_⟩
    cases n <;> exact Fl.one (h x (List.mem_cons_self ..))
  | 0, x :: y :: l, e, _ => by simp at e
  | n + 1, x :: y :: l, e, h => by
    unfold leastL
    rw [if_neg (by simp)]
    have el : (x :: y :: l).length = l.length + 2 := rfl
    obtain ⟨m, h1⟩ := leastL_fl key n ((x :: y :: l).take ((x :: y :: l).length / 2)) (by rw [List.length_take]; omega) (fun z hz => h z (List.mem_of_mem_take hz))
    obtain ⟨m', h2⟩ := leastL_fl key n ((x :: y :: l).drop ((x :: y :: l).length / 2)) (by rw [List.length_drop]; omega) (fun z hz => h z (List.mem_of_mem_drop hz))
    exact joinL_fl h1 h2
theorem leastL_ne (key : α → Int) : ∀ (n : Nat) (l : List (Tr α)), l ≠ [] → leastL key n l ≠ []
  | 0, _, h => h
  | n + 1, l, h => by
    unfold leastL
    split
    · exact h
    · next e =>
      exact joinL_ne (leastL_ne key n _ (by intro q; have q2 := congrArg List.length q; rw [List.length_take, List.length_nil] at q2; omega))
theorem leastL_len (key : α → Int) : ∀ (n : Nat) (l : List (Tr α)), (leastL key n l).length ≤ l.length
  | 0, _ => Nat.le_refl _
  | n + 1, l => by
    unfold leastL
    split
    · exact Nat.le_refl _
    · refine Nat.le_trans joinL_len ?_
      have h1 := leastL_len key n (l.take (l.length / 2))
      have h2 := leastL_len key n (l.drop (l.length / 2))
      rw [List.length_take] at h1; rw [List.length_drop] at h2; omega
end Go.Proofs.Ytcjlkhgnohdonaa
