import Derived.Test.YtjcdjkfnmobhkaaGreatBa
import Derived.ArgAppend
import Derived.Deep.MidRow
import Derived.Lib.SliceRun
/- What turns, cell by cell. -/
namespace Go.Proofs.YtjcdjkfnmobhkaaGreat
open Go.RowKit Go.Shelf Go.Lib
/-- What turned: cells of S, and what is new. -/
structure Cv (S : Nat → Nat → Prop) (W V : World) : Prop where
  mv : Mv (fun k => ∃ j, S k j) W V
  ce : ∀ k j, k < W.heap.size → ¬ S k j → V.cell? ⟨k, j, none⟩ = W.cell? ⟨k, j, none⟩
  pr : ∀ k j, k < W.heap.size → (W.cell? ⟨k, j, none⟩).isSome = true → (V.cell? ⟨k, j, none⟩).isSome = true
  fr : ∀ k j, k < W.heap.size → V.frozen? ⟨k, j, none⟩ = W.frozen? ⟨k, j, none⟩
theorem Cv.size {S : Nat → Nat → Prop} {W V : World} (h : Cv S W V) : W.heap.size ≤ V.heap.size := h.mv.size
theorem Cv.below {S : Nat → Nat → Prop} {W V : World} (h : Below W.heap.size W V) : Cv S W V :=
  ⟨Mv.below h, fun k _ hk _ => World.cell?_of_block (h.block k hk), fun k _ hk c => by rw [World.cell?_of_block (h.block k hk)]; exact c, fun k _ hk => by unfold World.frozen?; rw [h.block k hk]⟩
theorem Cv.refl (S : Nat → Nat → Prop) (W : World) : Cv S W W := Cv.below (Below.refl _ _)
theorem Cv.mono {S T : Nat → Nat → Prop} {W V : World} (h : Cv S W V) (g : ∀ k j, k < W.heap.size → S k j → T k j) : Cv T W V :=
  ⟨h.mv.mono fun k hk ⟨j, hj⟩ => ⟨j, g k j hk hj⟩, fun k j hk hn => h.ce k j hk fun s => hn (g k j hk s), h.pr, h.fr⟩
theorem Cv.trans {S T : Nat → Nat → Prop} {A B C : World} (h : Cv S A B) (k : Cv T B C) (g : ∀ k j, T k j → S k j ∨ A.heap.size ≤ k) : Cv S A C :=
  ⟨h.mv.trans (E' := fun k => ∃ j, T k j) (fun b hb => by
      obtain ⟨j, hj⟩ := hb
      exact (g b j hj).imp (fun q => ⟨j, q⟩) id) k.mv,
   fun b j hb hn => (k.ce b j (Nat.lt_of_lt_of_le hb h.size) fun t => (g b j t).elim hn (fun q => by omega)).trans (h.ce b j hb hn),
   fun b j hb c => k.pr b j (Nat.lt_of_lt_of_le hb h.size) (h.pr b j hb c),
   fun b j hb => (k.fr b j (Nat.lt_of_lt_of_le hb h.size)).trans (h.fr b j hb)⟩
theorem Cv.trans' {S : Nat → Nat → Prop} {A B C : World} (h : Cv S A B) (k : Cv S B C) : Cv S A C := h.trans k fun _ _ s => .inl s
theorem Mv.setCells {E : Nat → Prop} {A W : World} {g : Nat} (h : Mv E A W) (hg : E g ∨ A.heap.size ≤ g) : ∀ (vs : List Value) (o : Nat), Mv E A (W.setCells g o vs)
  | [], _ => h
  | v :: r, o => (h.setc (p := ⟨g, o, none⟩) hg v).setCells hg r (o + 1)
theorem Cv.cells (W : World) (g o : Nat) (vs : List Value) : Cv (fun k j => k = g ∧ o ≤ j ∧ j < o + vs.length) W (W.setCells g o vs) := by
  by_cases hv : vs = []
  · subst hv; exact Cv.refl _ _
  · have hp : 0 < vs.length := List.length_pos_iff.2 hv
    refine ⟨(Mv.refl _ W).setCells (.inl ⟨o, rfl, Nat.le_refl _, by omega⟩) _ _, fun k j _ hn => ?_, fun k j _ c => World.isSome_setCells _ _ _ _ _ c, fun k j _ => World.frozen?_setCells ..⟩
    refine World.cell?_setCells_out _ _ _ _ _ fun h1 _ => ?_
    have h1' : k = g := h1
    show j < o ∨ o + vs.length ≤ j
    by_cases h2 : j < o
    · exact .inl h2
    · by_cases h3 : o + vs.length ≤ j
      · exact .inr h3
      · exact absurd ⟨h1', by omega, by omega⟩ hn
theorem Cv.one (W : World) (g o : Nat) (v : Value) : Cv (fun k j => k = g ∧ j = o) W (W.setCell ⟨g, o, none⟩ v) :=
  (Cv.cells W g o [v]).mono fun k j _ h => ⟨h.1, by have := h.2; simp at this; omega⟩
/-- The same, as far as a block is not touched at all. -/
theorem Cv.cell {S : Nat → Nat → Prop} {W V : World} (h : Cv S W V) {k j : Nat} {v : Value} (hn : ¬ S k j) (c : W.cell? ⟨k, j, none⟩ = some v) : V.cell? ⟨k, j, none⟩ = some v := (h.ce k j (cell_lt c) hn).trans c
theorem Cv.next {S : Nat → Nat → Prop} {F : Nat → Prop} {A W V : World} (h : Cv S A W) (m : Mv F W V) (hF : ∀ k, F k → A.heap.size ≤ k) : Cv S A V := by
  have hb : ∀ k, k < A.heap.size → V.heap[k]? = W.heap[k]? := fun k hk => m.block k (Nat.lt_of_lt_of_le hk h.size) fun f => by have := hF k f; omega
  exact ⟨h.mv.trans (E' := F) (fun k f => .inr (hF k f)) m, fun k j hk hn => (World.cell?_of_block (hb k hk)).trans (h.ce k j hk hn), fun k j hk c => by rw [World.cell?_of_block (hb k hk)]; exact h.pr k j hk c, fun k j hk => by have := h.fr k j hk; unfold World.frozen? at this ⊢; rw [hb k hk]; exact this⟩
theorem hidP {p : Prop} (h : p) : Hid p := h
theorem froz_new {W : World} {cs : Array Value} {t : TypeId} {n j : Nat} (hn : W.heap.size = n) : (W.alloc (.cells cs t)).frozen? ⟨n, j, none⟩ = false := by
  subst hn
  have := heap_alloc_new W (.cells cs t)
  unfold World.frozen?
  rw [this]
  simp
theorem cells_of {W : World} {b : Nat} {cs : Array Value} {t : TypeId} (h : W.heap[b]? = some (.cells cs t)) {j : Nat} {v : Value} (hj : cs[j]? = some v) : W.cell? ⟨b, j, none⟩ = some v := by
  unfold World.cell?
  rw [h]
  simpa using hj
theorem froz_of {W : World} {b : Nat} {cs : Array Value} {t : TypeId} (h : W.heap[b]? = some (.cells cs t)) {j : Nat} : W.frozen? ⟨b, j, none⟩ = false := by
  unfold World.frozen?
  rw [h]
  simp
theorem bcell {A V : World} {n : Nat} (h : Below n A V) {k j : Nat} {v : Value} (hk : k < n) (c : A.cell? ⟨k, j, none⟩ = some v) : V.cell? ⟨k, j, none⟩ = some v := (World.cell?_of_block (h.block k hk)).trans c
theorem bfroz {A V : World} {n : Nat} (h : Below n A V) {k j : Nat} (hk : k < n) : V.frozen? ⟨k, j, none⟩ = A.frozen? ⟨k, j, none⟩ := by unfold World.frozen?; rw [h.block k hk]
theorem bmv {F : Nat → Prop} {A W V : World} {n : Nat} (h : Below n A W) (hn : n ≤ A.heap.size) (m : Mv F W V) (hF : ∀ k, F k → n ≤ k) : Below n A V := h.trans (m.toBelow (Nat.le_trans hn h.size) fun k hk f => by have := hF k f; omega)
theorem wpList_append_run {P : Program} {w : World} {ops : Array Oper} {rest : List Oper} {o : Oper} {a : Act} {Q : Exit → Act → World → Prop} (hgd : o.guard = none) (s x : Operand) (t : TypeId)
    (ho : o.op = .call { callee := .builtin .append, args := #[s, x], argTypes := #[t, t] }) (v xv v' : Value) (w' : World) (hs : a.eval s = v) (hx : a.eval x = xv)
    (hr : (Builtin.append_ #[t, t] o.type #[v, xv]).run P w = .ok v' w') (h : wpList P ops Q rest (a.put o.dst v') w') : wpList P ops Q (o :: rest) a w := by
  refine wpList_plain hgd fun K hK => ?_
  unfold Oper.wp execOp
  simp only [ho, resolve, invoke, builtin, Sem.run_bind, Sem.run_pure, Result.andThen_ok, List.map_toArray, List.map_cons, List.map_nil, hs, hx, hr]
  exact hK _ _ h
theorem wpListIn_append_run {F : Fence} {n : Nat} {P : Program} {w : World} {ops : Array Oper} {rest : List Oper} {o : Oper} {a : Act} {Q : Exit → Act → World → Prop} (hg : o.guard = none) (s x : Operand) (t : TypeId)
    (hop : o.op = .call { callee := .builtin .append, args := #[s, x], argTypes := #[t, t] }) (v xv v' : Value) (w' : World) (hs : a.eval s = v) (hx : a.eval x = xv)
    (hrun : (Builtin.append_ #[t, t] o.type #[v, xv]).run P w = .ok v' w') (h : wpListIn F n P ops Q rest (a.put o.dst v') w') : wpListIn F n P ops Q (o :: rest) a w := by
  refine wpListIn_plain hg fun K hK' => ?_
  unfold Oper.wpIn
  refine ⟨?_, ?_⟩
  · simp [Oper.about, hop, resolve, Target.leads, Sem.run_pure]
  · rw [Oper.semAt_plain F _ _ (by rw [hop]; intro c hc'; cases hc')]
    simp [execOp, hop, resolve, invoke, builtin, hs, hx, hrun, Result.andThen]
    exact hK' _ _ h
/-- The first k with their places, from the end on. -/
def bk {α : Type} (l : List α) : Nat → List (Nat × α)
  | 0 => []
  | k + 1 => match l[k]? with
    | some x => (k, x) :: bk l k
    | none => bk l k
theorem bk_succ {α : Type} {l : List α} {k : Nat} {x : α} (h : l[k]? = some x) : bk l (k + 1) = (k, x) :: bk l k := by simp [bk, h]
theorem bk_mem {α : Type} {l : List α} : ∀ {k : Nat} {p : Nat × α}, p ∈ bk l k → l[p.1]? = some p.2
  | 0, _, h => by cases h
  | k + 1, p, h => by
    unfold bk at h
    split at h
    · next x hx =>
      rcases List.mem_cons.1 h with rfl | h
      · exact hx
      · exact bk_mem h
    · exact bk_mem h
theorem bk_cons {α : Type} {l : List α} {k : Nat} (hk : k ≤ l.length) {i : Nat} {x : α} {rest : List (Nat × α)} (h : bk l k = (i, x) :: rest) : k = i + 1 ∧ l[i]? = some x ∧ rest = bk l i := by
  cases k with
  | zero => cases h
  | succ m =>
    obtain ⟨y, hy⟩ : ∃ y, l[m]? = some y := ⟨_, List.getElem?_eq_getElem (by omega)⟩
    rw [bk_succ hy] at h
    injection h with h1 h2
    injection h1 with h3 h4
    subst h3; subst h4
    exact ⟨rfl, hy, h2.symm⟩
theorem bk_nil {α : Type} {l : List α} {k : Nat} (hk : k ≤ l.length) (h : bk l k = []) : k = 0 := by
  cases k with
  | zero => rfl
  | succ m =>
    obtain ⟨y, hy⟩ : ∃ y, l[m]? = some y := ⟨_, List.getElem?_eq_getElem (by omega)⟩
    rw [bk_succ hy] at h
    cases h
end Go.Proofs.YtjcdjkfnmobhkaaGreat
/- Plain queues: forests by keys, joined, by halves; what stays in order. -/
namespace Go.Proofs.YtjcdjkfnmobhkaaGreat
/-- Trees behind a tree. -/
inductive Fo (α : Type) where
  | nil : Fo α
  | cons (v : α) (t : Int) (k r : Fo α) : Fo α
structure Tr (α : Type) where
  v : α
  t : Int
  k : Fo α
variable {α : Type}
def Fo.toL : Fo α → List (Tr α)
  | .nil => []
  | .cons v t k r => ⟨v, t, k⟩ :: r.toL
def Fo.els : Fo α → List (α × Int)
  | .nil => []
  | .cons v t k r => (v, t) :: (k.els ++ r.els)
def elsL (l : List (Tr α)) : List (α × Int) := l.flatMap fun x => (x.v, x.t) :: x.k.els
theorem elsL_nil : elsL ([] : List (Tr α)) = [] := rfl
theorem elsL_cons (x : Tr α) (l : List (Tr α)) : elsL (x :: l) = (x.v, x.t) :: (x.k.els ++ elsL l) := rfl
theorem elsL_app (a b : List (Tr α)) : elsL (a ++ b) = elsL a ++ elsL b := by simp [elsL]
theorem elsL_toL : ∀ f : Fo α, elsL f.toL = f.els
  | .nil => rfl
  | .cons v t k r => by
    rw [Fo.toL, elsL_cons, elsL_toL r]; rfl
theorem elsL_perm {a b : List (Tr α)} (h : a.Perm b) : (elsL a).Perm (elsL b) := h.flatMap_right _
/-- All keys are above m, and each tree's are above its own. -/
def Fo.Up (key : α → Int) : Int → Fo α → Prop
  | _, .nil => True
  | m, .cons v _ k r => m < key v ∧ k.Up key (key v) ∧ r.Up key m
theorem Fo.Up.mono {key : α → Int} : ∀ (f : Fo α) {m m' : Int}, f.Up key m → m' ≤ m → f.Up key m'
  | .nil, _, _, _, _ => trivial
  | .cons _ _ _ r, _, _, h, e => ⟨by have := h.1; omega, h.2.1, Fo.Up.mono r h.2.2 e⟩
theorem Fo.Up.els {key : α → Int} : ∀ (f : Fo α) {m : Int}, f.Up key m → ∀ y ∈ f.els, m < key y.1
  | .nil, _, _, y, hy => by cases hy
  | .cons v t k r, m, h, y, hy => by
    rcases List.mem_cons.1 hy with rfl | hy
    · exact h.1
    · rcases List.mem_append.1 hy with hy | hy
      · have := Fo.Up.els k h.2.1 y hy; have := h.1; omega
      · exact Fo.Up.els r h.2.2 y hy
theorem Fo.Up.toL {key : α → Int} : ∀ (f : Fo α) {m : Int}, f.Up key m → ∀ x ∈ f.toL, m < key x.v ∧ x.k.Up key (key x.v)
  | .nil, _, _, x, hx => by cases hx
  | .cons v t k r, m, h, x, hx => by
    rcases List.mem_cons.1 hx with rfl | hx
    · exact ⟨h.1, h.2.1⟩
    · exact Fo.Up.toL r h.2.2 x hx
/-- A row of trees of one key. -/
def Fl (key : α → Int) (m : Int) (l : List (Tr α)) : Prop := ∀ x ∈ l, key x.v = m ∧ x.k.Up key m
theorem Fl.nil {key : α → Int} {m : Int} : Fl key m ([] : List (Tr α)) := fun _ h => by cases h
theorem Fl.one {key : α → Int} {x : Tr α} (h : x.k.Up key (key x.v)) : Fl key (key x.v) [x] := fun y hy => by
  obtain rfl := List.mem_singleton.1 hy
  exact ⟨rfl, h⟩
theorem Fl.app {key : α → Int} {m : Int} {a b : List (Tr α)} (ha : Fl key m a) (hb : Fl key m b) : Fl key m (a ++ b) := fun x hx => (List.mem_append.1 hx).elim (ha x) (hb x)
theorem Fl.sub {key : α → Int} {m : Int} {a b : List (Tr α)} (ha : Fl key m a) (h : ∀ x ∈ b, x ∈ a) : Fl key m b := fun x hx => ha x (h x hx)
theorem Fl.els {key : α → Int} {m : Int} {l : List (Tr α)} (h : Fl key m l) : ∀ y ∈ elsL l, m ≤ key y.1 := fun y hy => by
  obtain ⟨x, hx, hy⟩ := List.mem_flatMap.1 hy
  obtain ⟨h1, h2⟩ := h x hx
  rcases List.mem_cons.1 hy with rfl | hy
  · show m ≤ key x.v; omega
  · have := Fo.Up.els _ h2 y hy; omega
/-- Trees, one by one, behind a tree: the last one stands first. -/
def putF (ts : List (Tr α)) (k : Fo α) : Fo α := ts.foldl (fun j t => .cons t.v t.t t.k j) k
theorem putF_cons (x : Tr α) (ts : List (Tr α)) (k : Fo α) : putF (x :: ts) k = putF ts (.cons x.v x.t x.k k) := rfl
theorem putF_els : ∀ (ts : List (Tr α)) (k : Fo α), (putF ts k).els.Perm (elsL ts ++ k.els)
  | [], _ => List.Perm.refl _
  | x :: ts, k => by
    rw [putF_cons]
    refine (putF_els ts _).trans ?_
    rw [elsL_cons]
    show (elsL ts ++ (x.v, x.t) :: (x.k.els ++ k.els)).Perm ((x.v, x.t) :: (x.k.els ++ elsL ts) ++ k.els)
    refine List.perm_middle.trans ?_
    rw [List.cons_append]
    refine List.Perm.cons _ ?_
    rw [← List.append_assoc]
    exact List.Perm.append_right _ List.perm_append_comm
theorem putF_up {key : α → Int} {m : Int} : ∀ (ts : List (Tr α)) (k : Fo α), (∀ x ∈ ts, m < key x.v ∧ x.k.Up key (key x.v)) → k.Up key m → (putF ts k).Up key m
  | [], _, _, h => h
  | x :: ts, _, hs, h => putF_up ts _ (fun y hy => hs y (List.mem_cons_of_mem _ hy)) ⟨(hs x (List.mem_cons_self ..)).1, (hs x (List.mem_cons_self ..)).2, h⟩
/-- The last one of a row with trees put behind it. -/
def onL (ts : List (Tr α)) : List (Tr α) → List (Tr α)
  | [] => []
  | [x] => [⟨x.v, x.t, putF ts x.k⟩]
  | x :: y :: l => x :: onL ts (y :: l)
theorem onL_len (ts : List (Tr α)) : ∀ l : List (Tr α), (onL ts l).length = l.length
  | [] => rfl
  | [_] => rfl
  | x :: y :: l => by simp only [onL, List.length_cons]; have := onL_len ts (y :: l); simp only [List.length_cons] at this; omega
theorem onL_snoc (ts : List (Tr α)) : ∀ (l : List (Tr α)) (x : Tr α), onL ts (l ++ [x]) = l ++ [⟨x.v, x.t, putF ts x.k⟩]
  | [], x => rfl
  | [y], x => rfl
  | y :: z :: l, x => by
    show y :: onL ts ((z :: l) ++ [x]) = _
    rw [onL_snoc ts (z :: l) x]; rfl
theorem snoc_of : ∀ {l : List (Tr α)}, l ≠ [] → ∃ a x, l = a ++ [x] := fun {l} h => ⟨l.dropLast, l.getLast h, (List.dropLast_concat_getLast h).symm⟩
theorem onL_els (ts : List (Tr α)) (l : List (Tr α)) (h : l ≠ []) : (elsL (onL ts l)).Perm (elsL l ++ elsL ts) := by
  obtain ⟨a, x, rfl⟩ := snoc_of h
  rw [onL_snoc, elsL_app, elsL_app, List.append_assoc]
  refine List.Perm.append_left _ ?_
  show ((x.v, x.t) :: ((putF ts x.k).els ++ [])).Perm ((x.v, x.t) :: (x.k.els ++ []) ++ elsL ts)
  rw [List.append_nil, List.append_nil, List.cons_append]
  exact List.Perm.cons _ ((putF_els ts _).trans List.perm_append_comm)
theorem onL_fl {key : α → Int} {m : Int} {ts l : List (Tr α)} (hl : Fl key m l) (hs : ∀ x ∈ ts, m < key x.v ∧ x.k.Up key (key x.v)) : Fl key m (onL ts l) := by
  by_cases h : l = []
  · subst h; exact Fl.nil
  · obtain ⟨a, x, rfl⟩ := snoc_of h
    rw [onL_snoc]
    refine Fl.app (hl.sub fun y hy => List.mem_append_left _ hy) ?_
    intro y hy
    obtain rfl := List.mem_singleton.1 hy
    obtain ⟨h1, h2⟩ := hl x (by simp)
    exact ⟨h1, putF_up _ _ hs h2⟩
theorem onL_ts (ts : List (Tr α)) : ∀ l : List (Tr α), (onL ts l).map (fun x => (x.v, x.t)) = l.map (fun x => (x.v, x.t))
  | [] => rfl
  | [_] => rfl
  | x :: y :: l => by
    show _ :: (onL ts (y :: l)).map _ = _ :: (y :: l).map _
    rw [onL_ts ts (y :: l)]
/-- The first key of a row. -/
def keyL (key : α → Int) : List (Tr α) → Int
  | [] => 0
  | x :: _ => key x.v
theorem Fl.keyL {key : α → Int} {m : Int} {l : List (Tr α)} (h : Fl key m l) (hn : l ≠ []) : keyL key l = m := by
  cases l with
  | nil => exact absurd rfl hn
  | cons x l => exact (h x (List.mem_cons_self ..)).1
/-- Two rows to one. -/
def joinL (key : α → Int) (a b : List (Tr α)) : List (Tr α) :=
  if a = [] then b else if b = [] then a
  else if keyL key a < keyL key b then onL b a
  else if keyL key b < keyL key a then onL a b
  else a ++ b
theorem joinL_els (key : α → Int) (a b : List (Tr α)) : (elsL (joinL key a b)).Perm (elsL a ++ elsL b) := by
  unfold joinL
  split
  · next h => subst h; exact List.Perm.refl _
  · next ha =>
    split
    · next h => subst h; rw [elsL_nil, List.append_nil]
    · next hb =>
      split
      · exact onL_els b a ha
      · split
        · exact (onL_els a b hb).trans List.perm_append_comm
        · rw [elsL_app]
theorem up_of_fl {key : α → Int} {m m' : Int} {l : List (Tr α)} (h : Fl key m' l) (e : m < m') : ∀ x ∈ l, m < key x.v ∧ x.k.Up key (key x.v) := fun x hx => by
  obtain ⟨h1, h2⟩ := h x hx
  exact ⟨by omega, by rw [h1]; exact h2⟩
theorem joinL_fl {key : α → Int} {a b : List (Tr α)} {m m' : Int} (ha : Fl key m a) (hb : Fl key m' b) : ∃ m2, Fl key m2 (joinL key a b) := by
  unfold joinL
  split
  · exact ⟨_, hb⟩
  · next na =>
    split
    · exact ⟨_, ha⟩
    · next nb =>
      rw [ha.keyL na, hb.keyL nb]
      split
      · next e => exact ⟨m, onL_fl ha (up_of_fl hb e)⟩
      · split
        · next e => exact ⟨m', onL_fl hb (up_of_fl ha e)⟩
        · have e : m = m' := by omega
          subst e
          exact ⟨m, ha.app hb⟩
theorem joinL_ne {key : α → Int} {a b : List (Tr α)} (ha : a ≠ []) : joinL key a b ≠ [] := by
  intro h
  have e := congrArg List.length h
  have l1 : 0 < a.length := List.length_pos_iff.2 ha
  unfold joinL at e
  rw [if_neg ha] at e
  split at e
  · rw [List.length_nil] at e; omega
  · next nb =>
    have l2 : 0 < b.length := List.length_pos_iff.2 nb
    split at e
    · rw [onL_len, List.length_nil] at e; omega
    · split at e
      · rw [onL_len, List.length_nil] at e; omega
      · rw [List.length_append, List.length_nil] at e; omega
theorem joinL_len {key : α → Int} {a b : List (Tr α)} : (joinL key a b).length ≤ a.length + b.length := by
  unfold joinL
  split
  · omega
  · split
    · omega
    · split
      · rw [onL_len]; omega
      · split
        · rw [onL_len]; omega
        · simp
/-- The least ones of a row, by halves. -/
def leastL (key : α → Int) : Nat → List (Tr α) → List (Tr α)
  | 0, l => l
  | n + 1, l => if l.length < 2 then l else joinL key (leastL key n (l.take (l.length / 2))) (leastL key n (l.drop (l.length / 2)))
theorem leastL_els (key : α → Int) : ∀ (n : Nat) (l : List (Tr α)), (elsL (leastL key n l)).Perm (elsL l)
  | 0, l => List.Perm.refl _
  | n + 1, l => by
    unfold leastL
    split
    · exact List.Perm.refl _
    · refine (joinL_els _ _ _).trans ?_
      refine ((leastL_els key n _).append (leastL_els key n _)).trans ?_
      rw [← elsL_app, List.take_append_drop]
theorem leastL_fl (key : α → Int) : ∀ (n : Nat) (l : List (Tr α)), l.length ≤ n + 1 → (∀ x ∈ l, x.k.Up key (key x.v)) → ∃ m, Fl key m (leastL key n l)
  | n, [], _, _ => by
    refine ⟨0, ?_⟩
    cases n <;> exact Fl.nil
  | n, [x], _, h => by
    refine ⟨key x.v, ?_⟩
    cases n <;> exact Fl.one (h x (List.mem_cons_self ..))
  | 0, x :: y :: l, e, _ => by simp at e
  | n + 1, x :: y :: l, e, h => by
    unfold leastL
    rw [if_neg (by simp)]
    have el : (x :: y :: l).length = l.length + 2 := rfl
    obtain ⟨m, h1⟩ := leastL_fl key n ((x :: y :: l).take ((x :: y :: l).length / 2)) (by rw [List.length_take]; omega) (fun z hz => h z (List.mem_of_mem_take hz))
    obtain ⟨m', h2⟩ := leastL_fl key n ((x :: y :: l).drop ((x :: y :: l).length / 2)) (by rw [List.length_drop]; omega) (fun z hz => h z (List.mem_of_mem_drop hz))
    exact joinL_fl h1 h2
theorem leastL_ne (key : α → Int) : ∀ (n : Nat) (l : List (Tr α)), l ≠ [] → leastL key n l ≠ []
  | 0, _, h => h
  | n + 1, l, h => by
    unfold leastL
    split
    · exact h
    · next e =>
      exact joinL_ne (leastL_ne key n _ (by intro q; have q2 := congrArg List.length q; rw [List.length_take, List.length_nil] at q2; omega))
theorem leastL_len (key : α → Int) : ∀ (n : Nat) (l : List (Tr α)), (leastL key n l).length ≤ l.length
  | 0, _ => Nat.le_refl _
  | n + 1, l => by
    unfold leastL
    split
    · exact Nat.le_refl _
    · refine Nat.le_trans joinL_len ?_
      have h1 := leastL_len key n (l.take (l.length / 2))
      have h2 := leastL_len key n (l.drop (l.length / 2))
      rw [List.length_take] at h1; rw [List.length_drop] at h2; omega
end Go.Proofs.YtjcdjkfnmobhkaaGreat
/- Plain queues: what is in one, in order; what Push and Pop do to it. -/
namespace Go.Proofs.YtjcdjkfnmobhkaaGreat
variable {α : Type}
/-- Ahead: by the key, then by the turn. -/
def Ahd (key : α → Int) (x y : α × Int) : Prop := key x.1 < key y.1 ∨ key x.1 = key y.1 ∧ x.2 < y.2
/-- A queue's front F holds the elements L, in order; turns are below n. -/
structure QI (key : α → Int) (F : List (Tr α)) (L : List (α × Int)) (n : Int) : Prop where
  fl : ∃ m, Fl key m F
  st : F.Pairwise fun x y => x.t < y.t
  pm : (elsL F).Perm L
  so : L.Pairwise (Ahd key)
  lt : ∀ y ∈ L, y.2 < n
theorem QI.nil (key : α → Int) (n : Int) : QI key ([] : List (Tr α)) [] n := ⟨⟨0, Fl.nil⟩, List.Pairwise.nil, List.Perm.refl _, List.Pairwise.nil, fun _ h => by cases h⟩
theorem QI.empty {key : α → Int} {L : List (α × Int)} {n : Int} (h : QI key [] L n) : L = [] := (List.Perm.nil_eq h.pm).symm
theorem QI.head {key : α → Int} {x : Tr α} {F : List (Tr α)} {L : List (α × Int)} {n : Int} (h : QI key (x :: F) L n) : ∃ L2, L = (x.v, x.t) :: L2 ∧ (x.k.els ++ elsL F).Perm L2 := by
  obtain ⟨m, hm⟩ := h.fl
  have hx : (x.v, x.t) ∈ L := h.pm.mem_iff.1 (by rw [elsL_cons]; exact List.mem_cons_self ..)
  have pm := h.pm
  have so := h.so
  cases L with
  | nil => cases hx
  | cons y L2 =>
    have e : y = (x.v, x.t) := by
      rcases List.mem_cons.1 hx with e | hx
      · exact e.symm
      · exfalso
        have hy : y ∈ elsL (x :: F) := pm.mem_iff.2 (List.mem_cons_self ..)
        have a := (List.pairwise_cons.1 so).1 _ hx
        have ky := hm.els y hy
        have kx := (hm x (List.mem_cons_self ..)).1
        obtain ⟨z, hz, hyz⟩ := List.mem_flatMap.1 hy
        obtain ⟨z1, z2⟩ := hm z hz
        rcases List.mem_cons.1 hyz with rfl | hyz
        · rcases List.mem_cons.1 hz with rfl | hz
          · rcases a with a | a
            · exact absurd a (by show ¬ key z.v < key z.v; omega)
            · exact absurd a.2 (by show ¬ z.t < z.t; omega)
          · have := (List.pairwise_cons.1 h.st).1 z hz
            rcases a with a | a
            · exact absurd a (by show ¬ key z.v < key x.v; omega)
            · exact absurd a.2 (by show ¬ z.t < x.t; omega)
        · have := Fo.Up.els _ z2 y hyz
          rcases a with a | a
          · exact absurd a (by show ¬ key y.1 < key x.v; omega)
          · exact absurd a.1 (by show ¬ key y.1 = key x.v; omega)
    subst e
    exact ⟨L2, rfl, pm.cons_inv⟩
/-- What is behind the first one goes behind the last of the others. -/
theorem QI.pop {key : α → Int} {x : Tr α} {F : List (Tr α)} {L : List (α × Int)} {n : Int} (h : QI key (x :: F) L n) (hF : F ≠ []) : ∃ L2, L = (x.v, x.t) :: L2 ∧ QI key (onL x.k.toL F) L2 n := by
  obtain ⟨L2, rfl, pm⟩ := h.head
  obtain ⟨m, hm⟩ := h.fl
  obtain ⟨x1, x2⟩ := hm x (List.mem_cons_self ..)
  refine ⟨L2, rfl, ⟨m, onL_fl (hm.sub fun y hy => List.mem_cons_of_mem _ hy) (Fo.Up.toL _ x2)⟩, ?_, ?_, (List.pairwise_cons.1 h.so).2, fun y hy => h.lt y (List.mem_cons_of_mem _ hy)⟩
  · have s := (List.pairwise_cons.1 h.st).2
    have e : ∀ l : List (Tr α), l.Pairwise (fun x y => x.t < y.t) ↔ (l.map fun x => (x.v, x.t)).Pairwise (fun x y => x.2 < y.2) := fun l => by rw [List.pairwise_map]
    rw [e] at s ⊢
    rw [onL_ts]; exact s
  · refine (onL_els _ _ hF).trans ?_
    rw [elsL_toL]
    exact List.perm_append_comm.trans pm
/-- The last of the front is out: those behind it, sorted, are the front. -/
theorem QI.pop1 {key : α → Int} {x : Tr α} {L : List (α × Int)} {n : Int} (h : QI key [x] L n) {N : Nat} (hN : x.k.toL.length ≤ N + 1) {F : List (Tr α)} (hp : F.Perm (leastL key N x.k.toL)) (hs : F.Pairwise fun x y => x.t < y.t) : ∃ L2, L = (x.v, x.t) :: L2 ∧ QI key F L2 n := by
  obtain ⟨L2, rfl, pm⟩ := h.head
  obtain ⟨m, hm⟩ := h.fl
  obtain ⟨x1, x2⟩ := hm x (List.mem_cons_self ..)
  obtain ⟨m2, h2⟩ := leastL_fl key N x.k.toL hN (fun y hy => (Fo.Up.toL _ x2 y hy).2)
  refine ⟨L2, rfl, ⟨m2, h2.sub fun y hy => hp.mem_iff.1 hy⟩, hs, ?_, (List.pairwise_cons.1 h.so).2, fun y hy => h.lt y (List.mem_cons_of_mem _ hy)⟩
  refine (elsL_perm hp).trans ((leastL_els _ _ _).trans ?_)
  rw [elsL_toL]
  rw [elsL_nil, List.append_nil] at pm
  exact pm
/-- The front made anew, of single trees. -/
theorem QI.anew {key : α → Int} {T : List (Tr α)} {L : List (α × Int)} {n : Int} {N : Nat} (hN : T.length ≤ N + 1) (hT : ∀ x ∈ T, x.k = .nil) {F : List (Tr α)} (hp : F.Perm (leastL key N T)) (hs : F.Pairwise fun x y => x.t < y.t) (hl : (T.map fun x => (x.v, x.t)).Perm L) (so : L.Pairwise (Ahd key)) (lt : ∀ y ∈ L, y.2 < n) : QI key F L n := by
  obtain ⟨m2, h2⟩ := leastL_fl key N T hN (fun y hy => by rw [hT y hy]; trivial)
  refine ⟨⟨m2, h2.sub fun y hy => hp.mem_iff.1 hy⟩, hs, ?_, so, lt⟩
  refine (elsL_perm hp).trans ((leastL_els _ _ _).trans ?_)
  have e : ∀ T : List (Tr α), (∀ x ∈ T, x.k = .nil) → elsL T = T.map fun x => (x.v, x.t) := by
    intro T
    induction T with
    | nil => intro _; rfl
    | cons y T ih =>
      intro h
      rw [elsL_cons, h y (List.mem_cons_self ..), ih (fun z hz => h z (List.mem_cons_of_mem _ hz))]; rfl
  rw [e T hT]; exact hl
/-- v, pushed: behind all that it isn't ahead of. -/
def insK (key : α → Int) (v : α) (n : Int) : List (α × Int) → List (α × Int)
  | [] => [(v, n)]
  | y :: L => if key v < key y.1 then (v, n) :: y :: L else y :: insK key v n L
def insA (key : α → Int) (v : α) : List α → List α
  | [] => [v]
  | y :: L => if key v < key y then v :: y :: L else y :: insA key v L
theorem insK_map (key : α → Int) (v : α) (n : Int) : ∀ L : List (α × Int), (insK key v n L).map (·.1) = insA key v (L.map (·.1))
  | [] => rfl
  | y :: L => by
    simp only [insK, insA, List.map_cons]
    split
    · rfl
    · rw [List.map_cons, insK_map key v n L]
theorem insK_perm (key : α → Int) (v : α) (n : Int) : ∀ L : List (α × Int), (insK key v n L).Perm ((v, n) :: L)
  | [] => List.Perm.refl _
  | y :: L => by
    unfold insK
    split
    · exact List.Perm.refl _
    · exact ((insK_perm key v n L).cons y).trans (List.Perm.swap ..)
theorem insK_sorted (key : α → Int) (v : α) (n : Int) : ∀ L : List (α × Int), L.Pairwise (Ahd key) → (∀ y ∈ L, y.2 < n) → (insK key v n L).Pairwise (Ahd key)
  | [], _, _ => List.pairwise_singleton _ _
  | y :: L, h, hn => by
    obtain ⟨h1, h2⟩ := List.pairwise_cons.1 h
    unfold insK
    split
    · next e =>
      refine List.pairwise_cons.2 ⟨fun z hz => .inl ?_, h⟩
      rcases List.mem_cons.1 hz with rfl | hz
      · exact e
      · show key v < key z.1
        rcases h1 z hz with q | q
        · omega
        · have := q.1; omega
    · next e =>
      refine List.pairwise_cons.2 ⟨fun z hz => ?_, insK_sorted key v n L h2 fun z hz => hn z (List.mem_cons_of_mem _ hz)⟩
      rcases List.mem_cons.1 ((insK_perm key v n L).mem_iff.1 hz) with rfl | hz
      · have := hn y (List.mem_cons_self ..)
        by_cases q : key y.1 < key v
        · exact .inl q
        · exact .inr ⟨by show key y.1 = key v; omega, this⟩
      · exact h1 z hz
theorem insA_len (key : α → Int) (v : α) : ∀ L : List α, (insA key v L).length = L.length + 1
  | [] => rfl
  | y :: L => by
    unfold insA
    split
    · rfl
    · simp only [List.length_cons, insA_len key v L]
theorem QI.push {key : α → Int} {F : List (Tr α)} {L : List (α × Int)} {n : Int} (h : QI key F L n) (v : α) : QI key (joinL key F [⟨v, n, .nil⟩]) (insK key v n L) (n + 1) := by
  obtain ⟨m, hm⟩ := h.fl
  have one : Fl key (key v) [(⟨v, n, .nil⟩ : Tr α)] := Fl.one (x := ⟨v, n, .nil⟩) trivial
  refine ⟨joinL_fl hm one, ?_, ?_, insK_sorted key v n L h.so h.lt, fun y hy => ?_⟩
  · have e : ∀ l : List (Tr α), l.Pairwise (fun x y => x.t < y.t) ↔ (l.map fun x => (x.v, x.t)).Pairwise (fun x y => x.2 < y.2) := fun l => by rw [List.pairwise_map]
    unfold joinL
    split
    · exact List.pairwise_singleton _ _
    · split
      · exact h.st
      · split
        · rw [e, onL_ts, ← e]; exact h.st
        · split
          · rw [e, onL_ts]; exact List.pairwise_singleton _ _
          · refine List.pairwise_append.2 ⟨h.st, List.pairwise_singleton _ _, fun a ha b hb => ?_⟩
            obtain rfl := List.mem_singleton.1 hb
            exact h.lt (a.v, a.t) (h.pm.mem_iff.1 (List.mem_flatMap.2 ⟨a, ha, List.mem_cons_self ..⟩))
  · refine (joinL_els _ _ _).trans ?_
    refine List.Perm.trans ?_ (insK_perm key v n L).symm
    refine List.perm_append_comm.trans ?_
    exact h.pm.cons (v, n)
  · rcases List.mem_cons.1 ((insK_perm key v n L).mem_iff.1 hy) with rfl | hy
    · show n < n + 1; omega
    · have := h.lt y hy; omega
theorem QI.len {key : α → Int} {F : List (Tr α)} {L : List (α × Int)} {n : Int} (h : QI key F L n) : F.length ≤ L.length := by
  rw [← h.pm.length_eq]
  clear h
  induction F with
  | nil => simp
  | cons x F ih => rw [elsL_cons]; simp; omega
theorem elsL_len : ∀ l : List (Tr α), l.length ≤ (elsL l).length
  | [] => Nat.zero_le _
  | x :: l => by
    have := elsL_len l
    rw [elsL_cons]; simp only [List.length_cons, List.length_append]; omega
/-- Turns of one key that rise do so strictly. -/
theorem strict_of {key : α → Int} {F : List (Tr α)} {L : List (α × Int)} {m : Int} (hp : (elsL F).Perm L) (so : L.Pairwise (Ahd key)) (fl : Fl key m F) (le : F.Pairwise fun x y => x.t ≤ y.t) : F.Pairwise fun x y => x.t < y.t := by
  have h1 : L.Pairwise fun a b => ¬ (key a.1 = key b.1 ∧ a.2 = b.2) := so.imp fun {a b} h e => by
    rcases h with h | h
    · omega
    · omega
  have h2 : (elsL F).Pairwise fun a b => ¬ (key a.1 = key b.1 ∧ a.2 = b.2) := (hp.pairwise_iff (fun {a b} h e => h ⟨e.1.symm, e.2.symm⟩)).2 h1
  have h3 : ∀ F : List (Tr α), (F.map fun x => (x.v, x.t)).Sublist (elsL F) := by
    intro F
    induction F with
    | nil => exact List.Sublist.refl _
    | cons x F ih =>
      rw [elsL_cons, List.map_cons]
      exact (ih.trans (List.sublist_append_right _ _)).cons_cons _
  have h4 := h2.sublist (h3 F)
  rw [List.pairwise_map] at h4
  have h5 : F.Pairwise fun a b => a.t ≤ b.t ∧ ¬ (key a.v = key b.v ∧ a.t = b.t) := List.Pairwise.and le h4
  refine h5.imp_of_mem fun {a b} ha hb h => ?_
  have := (fl a ha).1
  have := (fl b hb).1
  have h6 : ¬ a.t = b.t := fun e => h.2 ⟨by omega, e⟩
  have := h.1
  omega
theorem QI.nilL {key : α → Int} {F : List (Tr α)} {n : Int} (h : QI key F [] n) : F = [] := by
  cases F with
  | nil => rfl
  | cons x F => obtain ⟨L2, e, _⟩ := h.head; cases e
end Go.Proofs.YtjcdjkfnmobhkaaGreat
