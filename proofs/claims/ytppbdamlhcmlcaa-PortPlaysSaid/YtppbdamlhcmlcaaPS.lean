/- Ports in memory. -/
import Derived.Test.YtppbdamlhcmlcaaPPc
import Derived.Test.YtppbdamlhcmlcaaPPd
namespace Go.Proofs.Ytppbdamlhcmlcaa
open Go.RowKit Go.Shelf Go.Lib
structure Sk where
  blk : Nat
  sv : Value
  xs : List Pr
structure St where
  bt : Nat
  bh : Nat
  sock : ByteArray → Option Sk
  mv : Value
  ms : List Pr
  last : Int
  c : Nat
/-- What a block is for. -/
inductive Tg where
  | t
  | h
  | m
  | q (s : ByteArray)
  | v (s : ByteArray)
def hasT (S : St) : Tg → Nat → Prop
  | .t, k => k = S.bt
  | .h, k => k = S.bh
  | .m, k => nb S.mv = some k
  | .q s, k => ∃ q, S.sock s = some q ∧ k = q.blk
  | .v s, k => ∃ q, S.sock s = some q ∧ nb q.sv = some k
def hasB (S : St) (k : Nat) : Prop := ∃ a, hasT S a k
def qV (q : Sk) : Value := .pointer (some ⟨q.blk, 0, none⟩)
structure Ps (w : World) (S : St) : Prop where
  c0 : w.cell? ⟨S.bt, 0, none⟩ = some (.map (some S.bh))
  c1 : w.cell? ⟨S.bt, 1, none⟩ = some S.mv
  c2 : w.cell? ⟨S.bt, 2, none⟩ = some (.int .i64 S.last)
  f1 : w.frozen? ⟨S.bt, 1, none⟩ = false
  f2 : w.frozen? ⟨S.bt, 2, none⟩ = false
  map : ∃ m, m ≤ S.c ∧ MS w S.bh m fun s => (S.sock s).map qV
  sk : ∀ s q, S.sock s = some q → Cl q.blk q.sv w ∧ QS w q.sv q.xs ∧ q.xs.length ≤ 16
  ml : QS w S.mv S.ms
  mll : S.ms.length ≤ 16
  l0 : 0 ≤ S.last
  l1 : S.last ≤ S.c
  uq : ∀ a b k, hasT S a k → hasT S b k → a = b
theorem Ps.lt {w : World} {S : St} (h : Ps w S) {a : Tg} {k : Nat} (hk : hasT S a k) : k < w.heap.size := by
  cases a with
  | t => rw [show k = S.bt from hk]; exact cell_lt h.c0
  | h => rw [show k = S.bh from hk]; obtain ⟨m, _, q⟩ := h.map; exact q.lt
  | m => exact h.ml.lt hk
  | q s => obtain ⟨q, e, rfl⟩ := hk; exact (h.sk s q e).1.lt
  | v s => obtain ⟨q, e, hk⟩ := hk; exact (h.sk s q e).2.1.lt hk
theorem Ps.ltB {w : World} {S : St} (h : Ps w S) {k : Nat} (hk : hasB S k) : k < w.heap.size := by obtain ⟨a, hk⟩ := hk; exact h.lt hk
/-- A block of one tag is of no other. -/
theorem Ps.ne {w : World} {S : St} (h : Ps w S) {a b : Tg} {k j : Nat} (ha : hasT S a k) (hb : hasT S b j) (hab : a ≠ b) : k ≠ j := fun e => hab (h.uq a b k ha (e ▸ hb))
/-- From S at w to S' at w'. -/
structure Goes (S : St) (w : World) (S' : St) (w' : World) (d : Nat) : Prop where
  g : Ps w' S'
  bt : S'.bt = S.bt
  mv : Mv (hasB S) w w'
  gr : ∀ k, hasB S' k → hasB S k ∨ w.heap.size ≤ k
  c : S'.c ≤ S.c + d
theorem Ps.mv {w w' : World} {S : St} {E : Nat → Prop} (h : Ps w S) (m : Mv E w w') (hE : ∀ k, hasB S k → ¬ E k) : Ps w' S := by
  have ht : ¬ E S.bt := hE _ ⟨.t, rfl⟩
  obtain ⟨m1, a1, q1⟩ := h.map
  exact ⟨m.cell (a := ⟨S.bt, 0, none⟩) ht h.c0, m.cell (a := ⟨S.bt, 1, none⟩) ht h.c1, m.cell (a := ⟨S.bt, 2, none⟩) ht h.c2, (m.froz (a := ⟨S.bt, 1, none⟩) ht (cell_lt h.c1)).trans h.f1, (m.froz (a := ⟨S.bt, 2, none⟩) ht (cell_lt h.c2)).trans h.f2,
    ⟨m1, a1, q1.mv m (hE _ ⟨.h, rfl⟩)⟩, fun s q e => ⟨(h.sk s q e).1.mv m (hE _ ⟨.q s, q, e, rfl⟩), (h.sk s q e).2.1.mv m (fun k hk => hE _ ⟨.v s, q, e, hk⟩), (h.sk s q e).2.2⟩, h.ml.mv m (fun k hk => hE _ ⟨.m, hk⟩), h.mll, h.l0, h.l1, h.uq⟩
theorem Ps.below {w w' : World} {S : St} (h : Ps w S) (b : Below w.heap.size w w') : Ps w' S := h.mv (E := fun _ => False) (Mv.below b) (fun _ _ h => h)
theorem Goes.refl {S : St} {w : World} (h : Ps w S) : Goes S w S w 0 := ⟨h, rfl, Mv.refl _ _, fun _ h => .inl h, by omega⟩
theorem Goes.trans {S T U : St} {w v u : World} {d e : Nat} (h : Goes S w T v d) (k : Goes T v U u e) : Goes S w U u (d + e) :=
  ⟨k.g, k.bt.trans h.bt, h.mv.trans h.gr k.mv, fun x hx => by
    rcases k.gr x hx with q | q
    · exact h.gr x q
    · exact .inr (Nat.le_trans h.mv.size q), by have := h.c; have := k.c; omega⟩
theorem Goes.mono {S T : St} {w v : World} {d e : Nat} (h : Goes S w T v d) (hd : d ≤ e) : Goes S w T v e := ⟨h.g, h.bt, h.mv, h.gr, by have := h.c; omega⟩
theorem Goes.below {S : St} {w w' : World} (h : Ps w S) (b : Below w.heap.size w w') : Goes S w S w' 0 := ⟨h.below b, rfl, Mv.below b, fun _ h => .inl h, by omega⟩
theorem Goes.then {S T : St} {w v u : World} {d : Nat} (h : Goes S w T v d) (b : Below v.heap.size v u) : Goes S w T u d := (h.trans (Goes.below h.g b)).mono (by omega)
theorem Goes.beside {S T : St} {w v : World} {d : Nat} (h : Goes S w T v d) {k : Nat} (hk : k < w.heap.size) (hb : ¬ hasB S k) : v.heap[k]? = w.heap[k]? ∧ ¬ hasB T k :=
  ⟨h.mv.block k hk hb, fun q => by rcases h.gr k q with r | r; exact hb r; omega⟩
/-- Blocks of the new state are old ones of the same tag, or new ones of one tag. -/
theorem uq_turn {S S' : St} {n : Nat} (hu : ∀ a b k, hasT S a k → hasT S b k → a = b) (hlt : ∀ a k, hasT S a k → k < n) (a0 : Tg) (hs : ∀ a k, hasT S' a k → hasT S a k ∨ (a = a0 ∧ n ≤ k)) : ∀ a b k, hasT S' a k → hasT S' b k → a = b := by
  intro a b k ha hb
  rcases hs a k ha with p | ⟨e1, h1⟩ <;> rcases hs b k hb with q | ⟨e2, h2⟩
  · exact hu a b k p q
  · have := hlt a k p; omega
  · have := hlt b k q; omega
  · rw [e1, e2]
def upd (f : ByteArray → Option Sk) (s : ByteArray) (q : Option Sk) (x : ByteArray) : Option Sk := if x = s then q else f x
theorem upd_same (f : ByteArray → Option Sk) (s : ByteArray) (q : Option Sk) : upd f s q s = q := if_pos rfl
theorem upd_other (f : ByteArray → Option Sk) {s x : ByteArray} (q : Option Sk) (h : x ≠ s) : upd f s q x = f x := if_neg h
/-- A socket's queue has turned. -/
theorem Ps.turnQ {w w' : World} {S : St} {s : ByteArray} {q : Sk} {sv' : Value} {xs' : List Pr} (h : Ps w S) (hs : S.sock s = some q) (T : Tn q.blk 0 q.sv sv' w w') (hq : QS w' sv' xs') (hl : xs'.length ≤ 16) :
    Goes S w { S with sock := upd S.sock s (some ⟨q.blk, sv', xs'⟩) } w' 0 := by
  have tq : hasT S (.q s) q.blk := ⟨q, hs, rfl⟩
  have tv : ∀ k, nb q.sv = some k → hasT S (.v s) k := fun k hk => ⟨q, hs, hk⟩
  have off : ∀ a k, hasT S a k → a ≠ .q s → a ≠ .v s → ¬ (k = q.blk ∨ nb q.sv = some k) := fun a k ha h1 h2 e => by
    rcases e with e | e
    · exact h.ne ha tq h1 e
    · exact h1 (absurd (h.uq a (.v s) k ha (tv k e)) h2)
  have tt : ¬ (S.bt = q.blk ∨ nb q.sv = some S.bt) := off .t _ rfl (fun e => by cases e) (fun e => by cases e)
  have m := T.mv
  obtain ⟨m1, a1, q1⟩ := h.map
  have hT : ∀ a k, hasT { S with sock := upd S.sock s (some ⟨q.blk, sv', xs'⟩) } a k → hasT S a k ∨ (a = .v s ∧ w.heap.size ≤ k) := by
    intro a k ha
    cases a with
    | t => exact .inl ha
    | h => exact .inl ha
    | m => exact .inl ha
    | q x =>
      obtain ⟨q2, e, rfl⟩ := ha
      by_cases hx : x = s
      · subst hx
        simp only [upd_same] at e
        injection e with e; subst e
        exact .inl tq
      · simp only [upd_other _ _ hx] at e
        exact .inl ⟨q2, e, rfl⟩
    | v x =>
      obtain ⟨q2, e, hk⟩ := ha
      by_cases hx : x = s
      · subst hx
        simp only [upd_same] at e
        injection e with e; subst e
        rcases T.nbs with t | ⟨k2, t, hk2⟩
        · exact .inl (tv k (t ▸ hk))
        · rw [show nb sv' = some k from hk] at t; injection t with t; subst t
          exact .inr ⟨rfl, hk2⟩
      · simp only [upd_other _ _ hx] at e
        exact .inl ⟨q2, e, hk⟩
  refine ⟨⟨m.cell (a := ⟨S.bt, 0, none⟩) tt h.c0, m.cell (a := ⟨S.bt, 1, none⟩) tt h.c1, m.cell (a := ⟨S.bt, 2, none⟩) tt h.c2, (m.froz (a := ⟨S.bt, 1, none⟩) tt (cell_lt h.c1)).trans h.f1, (m.froz (a := ⟨S.bt, 2, none⟩) tt (cell_lt h.c2)).trans h.f2,
    ⟨m1, a1, (q1.mv m (off .h _ rfl (fun e => by cases e) (fun e => by cases e))).cong (fun x => ?_)⟩, fun x q2 e => ?_, h.ml.mv m (fun k hk => off .m k hk (fun e => by cases e) (fun e => by cases e)), h.mll, h.l0, h.l1, uq_turn h.uq (fun a k => h.lt) (.v s) hT⟩, rfl, m.mono (fun k _ e => ?_), fun k ⟨a, hk⟩ => ?_, by simp⟩
  · by_cases hx : x = s
    · subst hx; simp only [upd_same, hs]; rfl
    · simp only [upd_other _ _ hx]
  · by_cases hx : x = s
    · subst hx
      simp only [upd_same] at e
      injection e with e; subst e
      exact ⟨⟨T.c, (T.fz 0).trans (h.sk x q hs).1.f⟩, hq, hl⟩
    · simp only [upd_other _ _ hx] at e
      have o1 : ¬ (q2.blk = q.blk ∨ nb q.sv = some q2.blk) := off (.q x) _ ⟨q2, e, rfl⟩ (fun e => hx (by injection e)) (fun e => by cases e)
      exact ⟨(h.sk x q2 e).1.mv m o1, (h.sk x q2 e).2.1.mv m (fun k hk => off (.v x) k ⟨q2, e, hk⟩ (fun e => by cases e) (fun e => hx (by injection e))), (h.sk x q2 e).2.2⟩
  · rcases e with e | e
    · exact ⟨.q s, q, hs, e⟩
    · exact ⟨.v s, tv k e⟩
  · rcases hT a k hk with t | ⟨_, t⟩
    · exact .inl ⟨a, t⟩
    · exact .inr t
/-- The row of datagrams has turned. -/
theorem Ps.turnM {w w' : World} {S : St} {sv' : Value} {xs' : List Pr} (h : Ps w S) (T : Tn S.bt 1 S.mv sv' w w') (hq : QS w' sv' xs') (hl : xs'.length ≤ 16) :
    Goes S w { S with mv := sv', ms := xs' } w' 0 := by
  have off : ∀ a k, hasT S a k → a ≠ .t → a ≠ .m → ¬ (k = S.bt ∨ nb S.mv = some k) := fun a k ha h1 h2 e => by
    rcases e with e | e
    · exact h.ne ha (show hasT S .t S.bt from rfl) h1 e
    · exact h2 (h.uq a .m k ha e)
  have m := T.mv
  obtain ⟨m1, a1, q1⟩ := h.map
  have hT : ∀ a k, hasT { S with mv := sv', ms := xs' } a k → hasT S a k ∨ (a = .m ∧ w.heap.size ≤ k) := by
    intro a k ha
    cases a with
    | t => exact .inl ha
    | h => exact .inl ha
    | q x => exact .inl ha
    | v x => exact .inl ha
    | m =>
      rcases T.nbs with t | ⟨k2, t, hk2⟩
      · exact .inl (t.symm.trans ha)
      · rw [show nb sv' = some k from ha] at t; injection t with t; subst t
        exact .inr ⟨rfl, hk2⟩
  refine ⟨⟨(T.oth 0 (by decide)).trans h.c0, T.c, (T.oth 2 (by decide)).trans h.c2, (T.fz 1).trans h.f1, (T.fz 2).trans h.f2,
    ⟨m1, a1, q1.mv m (off .h _ rfl (fun e => by cases e) (fun e => by cases e))⟩, fun x q2 e => ?_, hq, hl, h.l0, h.l1, uq_turn h.uq (fun a k => h.lt) .m hT⟩, rfl, m.mono (fun k _ e => ?_), fun k ⟨a, hk⟩ => ?_, by simp⟩
  · exact ⟨(h.sk x q2 e).1.mv m (off (.q x) _ ⟨q2, e, rfl⟩ (fun e => by cases e) (fun e => by cases e)), (h.sk x q2 e).2.1.mv m (fun k hk => off (.v x) k ⟨q2, e, hk⟩ (fun e => by cases e) (fun e => by cases e)), (h.sk x q2 e).2.2⟩
  · rcases e with e | e
    · exact ⟨.t, e⟩
    · exact ⟨.m, e⟩
  · rcases hT a k hk with t | ⟨_, t⟩
    · exact .inl ⟨a, t⟩
    · exact .inr t
/-- The last number has turned. -/
theorem Ps.turnL {w : World} {S : St} (h : Ps w S) : Goes S w { S with last := S.last + 1, c := S.c + 1 } (w.setCell ⟨S.bt, 2, none⟩ (.int .i64 (S.last + 1))) 1 := by
  have m : Mv (fun k => k = S.bt) w (w.setCell ⟨S.bt, 2, none⟩ (.int .i64 (S.last + 1))) := (Mv.refl (fun k => k = S.bt) w).setc (p := ⟨S.bt, 2, none⟩) (.inl rfl) _
  have off : ∀ a k, hasT S a k → a ≠ .t → ¬ k = S.bt := fun a k ha h1 e => h.ne ha (show hasT S .t S.bt from rfl) h1 e
  obtain ⟨m1, a1, q1⟩ := h.map
  have oth : ∀ j, j ≠ 2 → ∀ v, w.cell? ⟨S.bt, j, none⟩ = some v → (w.setCell ⟨S.bt, 2, none⟩ (.int .i64 (S.last + 1))).cell? ⟨S.bt, j, none⟩ = some v := fun j hj v hv => (World.cell?_setCell_other _ _ _ _ (by simp; try exact hj)).trans hv
  have hT : ∀ a k, hasT { S with last := S.last + 1, c := S.c + 1 } a k → hasT S a k := by
    intro a k ha
    cases a <;> exact ha
  refine ⟨⟨oth 0 (by decide) _ h.c0, oth 1 (by decide) _ h.c1, World.cell?_setCell_same' _ _ _ (by rw [h.c2]; rfl), by rw [World.frozen?_setCell]; exact h.f1, by rw [World.frozen?_setCell]; exact h.f2,
    ⟨m1, by show m1 ≤ S.c + 1; omega, q1.mv m (off .h _ rfl (fun e => by cases e))⟩, fun x q2 e => ?_, h.ml.mv m (fun k hk => off .m k hk (fun e => by cases e)), h.mll, by have := h.l0; show 0 ≤ S.last + 1; omega, by have := h.l1; show S.last + 1 ≤ ((S.c + 1 : Nat) : Int); omega, fun a b k ha hb => h.uq a b k (hT a k ha) (hT b k hb)⟩, rfl, m.mono (fun k _ e => ⟨.t, e⟩), fun k ⟨a, hk⟩ => .inl ⟨a, hT a k hk⟩, by simp⟩
  exact ⟨(h.sk x q2 e).1.mv m (off (.q x) _ ⟨q2, e, rfl⟩ (fun e => by cases e)), (h.sk x q2 e).2.1.mv m (fun k hk => off (.v x) k ⟨q2, e, hk⟩ (fun e => by cases e)), (h.sk x q2 e).2.2⟩
/-- The map has turned: a socket is gone. -/
theorem Ps.turnC {w w' : World} {S : St} {s : ByteArray} {m : Nat} (h : Ps w S) (mv : Mv (fun k => k = S.bh) w w') (hm : MS w' S.bh m (fun x => if x = s then none else (S.sock x).map qV)) (hmc : m ≤ S.c) :
    Goes S w { S with sock := upd S.sock s none } w' 0 := by
  have off : ∀ a k, hasT S a k → a ≠ .h → ¬ k = S.bh := fun a k ha h1 e => h.ne ha (show hasT S .h S.bh from rfl) h1 e
  have tt : ¬ S.bt = S.bh := off .t _ rfl (fun e => by cases e)
  have hT : ∀ a k, hasT { S with sock := upd S.sock s none } a k → hasT S a k := by
    intro a k ha
    cases a with
    | t => exact ha
    | h => exact ha
    | m => exact ha
    | q x =>
      obtain ⟨q2, e, rfl⟩ := ha
      by_cases hx : x = s
      · subst hx; simp only [upd_same] at e; cases e
      · simp only [upd_other _ _ hx] at e; exact ⟨q2, e, rfl⟩
    | v x =>
      obtain ⟨q2, e, hk⟩ := ha
      by_cases hx : x = s
      · subst hx; simp only [upd_same] at e; cases e
      · simp only [upd_other _ _ hx] at e; exact ⟨q2, e, hk⟩
  refine ⟨⟨mv.cell (a := ⟨S.bt, 0, none⟩) tt h.c0, mv.cell (a := ⟨S.bt, 1, none⟩) tt h.c1, mv.cell (a := ⟨S.bt, 2, none⟩) tt h.c2, (mv.froz (a := ⟨S.bt, 1, none⟩) tt (cell_lt h.c1)).trans h.f1, (mv.froz (a := ⟨S.bt, 2, none⟩) tt (cell_lt h.c2)).trans h.f2,
    ⟨m, hmc, hm.cong (fun x => ?_)⟩, fun x q2 e => ?_, h.ml.mv mv (fun k hk => off .m k hk (fun e => by cases e)), h.mll, h.l0, h.l1, fun a b k ha hb => h.uq a b k (hT a k ha) (hT b k hb)⟩, rfl, mv.mono (fun k _ e => ⟨.h, e⟩), fun k ⟨a, hk⟩ => .inl ⟨a, hT a k hk⟩, by simp⟩
  · by_cases hx : x = s
    · subst hx; simp only [upd_same, if_true]; rfl
    · simp only [upd_other _ _ hx]; rw [if_neg hx]
  · by_cases hx : x = s
    · subst hx; simp only [upd_same] at e; cases e
    · simp only [upd_other _ _ hx] at e
      exact ⟨(h.sk x q2 e).1.mv mv (off (.q x) _ ⟨q2, e, rfl⟩ (fun e => by cases e)), (h.sk x q2 e).2.1.mv mv (fun k hk => off (.v x) k ⟨q2, e, hk⟩ (fun e => by cases e)), (h.sk x q2 e).2.2⟩
/-- The map has turned: a socket is new, its queue a new block. -/
theorem Ps.turnN {w w1 w' : World} {S : St} {s : ByteArray} {m n : Nat} (h : Ps w S) (hs : S.sock s = none) (b1 : Below w.heap.size w w1) (hn : w.heap.size ≤ n) (hc : Cl n (.slice none 0 0) w1) (mv : Mv (fun k => k = S.bh) w1 w') (hm : MS w' S.bh m (fun x => if x = s then some (.pointer (some ⟨n, 0, none⟩)) else (S.sock x).map qV)) (hmc : m ≤ S.c + 1) :
    Goes S w { S with sock := upd S.sock s (some ⟨n, .slice none 0 0, []⟩), c := S.c + 1 } w' 1 := by
  have off : ∀ a k, hasT S a k → a ≠ .h → ¬ k = S.bh := fun a k ha h1 e => h.ne ha (show hasT S .h S.bh from rfl) h1 e
  have tt : ¬ S.bt = S.bh := off .t _ rfl (fun e => by cases e)
  have h1 := h.below b1
  have mw : Mv (fun k => k = S.bh) w w' := (Mv.below b1).trans' mv
  have hnh : n ≠ S.bh := fun e => by
    have := h.lt (show hasT S .h S.bh from rfl)
    omega
  have hT : ∀ a k, hasT { S with sock := upd S.sock s (some ⟨n, .slice none 0 0, []⟩), c := S.c + 1 } a k → hasT S a k ∨ (a = .q s ∧ w.heap.size ≤ k) := by
    intro a k ha
    cases a with
    | t => exact .inl ha
    | h => exact .inl ha
    | m => exact .inl ha
    | q x =>
      obtain ⟨q2, e, rfl⟩ := ha
      by_cases hx : x = s
      · subst hx; simp only [upd_same] at e; injection e with e; subst e; exact .inr ⟨rfl, hn⟩
      · simp only [upd_other _ _ hx] at e; exact .inl ⟨q2, e, rfl⟩
    | v x =>
      obtain ⟨q2, e, hk⟩ := ha
      by_cases hx : x = s
      · subst hx; simp only [upd_same] at e; injection e with e; subst e; cases hk
      · simp only [upd_other _ _ hx] at e; exact .inl ⟨q2, e, hk⟩
  refine ⟨⟨mw.cell (a := ⟨S.bt, 0, none⟩) tt h.c0, mw.cell (a := ⟨S.bt, 1, none⟩) tt h.c1, mw.cell (a := ⟨S.bt, 2, none⟩) tt h.c2, (mw.froz (a := ⟨S.bt, 1, none⟩) tt (cell_lt h.c1)).trans h.f1, (mw.froz (a := ⟨S.bt, 2, none⟩) tt (cell_lt h.c2)).trans h.f2,
    ⟨m, hmc, hm.cong (fun x => ?_)⟩, fun x q2 e => ?_, h.ml.mv mw (fun k hk => off .m k hk (fun e => by cases e)), h.mll, h.l0, by have := h.l1; show S.last ≤ ((S.c + 1 : Nat) : Int); omega, uq_turn h.uq (fun a k => h.lt) (.q s) hT⟩, rfl, mw.mono (fun k _ e => ⟨.h, e⟩), fun k ⟨a, hk⟩ => ?_, by simp⟩
  · by_cases hx : x = s
    · subst hx; simp only [upd_same, if_true]; rfl
    · simp only [upd_other _ _ hx]; rw [if_neg hx]
  · by_cases hx : x = s
    · subst hx; simp only [upd_same] at e; injection e with e; subst e
      exact ⟨hc.mv mv hnh, .inl ⟨rfl, rfl⟩, by simp⟩
    · simp only [upd_other _ _ hx] at e
      exact ⟨(h.sk x q2 e).1.mv mw (off (.q x) _ ⟨q2, e, rfl⟩ (fun e => by cases e)), (h.sk x q2 e).2.1.mv mw (fun k hk => off (.v x) k ⟨q2, e, hk⟩ (fun e => by cases e)), (h.sk x q2 e).2.2⟩
  · rcases hT a k hk with t | ⟨_, t⟩
    · exact .inl ⟨a, t⟩
    · exact .inr t
end Go.Proofs.Ytppbdamlhcmlcaa
