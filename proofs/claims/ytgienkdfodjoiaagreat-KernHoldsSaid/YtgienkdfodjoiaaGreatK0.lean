/- A kernel in memory: a table of processes, groups and two clocks in one block. -/
import Derived.Test.YtgienkdfodjoiaaGreatLW
import Derived.Test.YtgienkdfodjoiaaGreatGL2
namespace Go.Proofs.YtgienkdfodjoiaaGreat
open Go.RowKit Go.Shelf
theorem hidK {p : Prop} (h : p) : Hid p := h
/-- The groups, with the other cells of their block as they lie. -/
def Cg.St.at (S : Cg.St) (w : World) : Cg.St := { S with x := fun j => w.cell? ⟨S.bt, j, none⟩ }
structure Kst where
  bm : Nat
  room : Int
  last : Int
  l : Pc.Ps
  S : Cg.St
  mono : Int
  wall : Int
def hasK (K : Kst) (k : Nat) : Prop := k = K.bm ∨ Cg.hasB K.S k
structure Ks (w : World) (K : Kst) : Prop where
  t : Pc.Tb (fun j => w.cell? ⟨K.S.bt, j, none⟩) w K.S.bt K.bm K.room K.last K.l
  g : Cg.Gs w (K.S.at w)
  bm : ¬ Cg.hasB K.S K.bm
  c12 : w.cell? ⟨K.S.bt, 12, none⟩ = some (.int .i64 K.mono)
  c13 : w.cell? ⟨K.S.bt, 13, none⟩ = some (.int .i64 K.wall)
theorem hasB_at (S : Cg.St) (w : World) (k : Nat) : Cg.hasB (S.at w) k ↔ Cg.hasB S k := Iff.rfl
theorem Gs_at {w : World} {S : Cg.St} (h : Cg.Gs w S) : Cg.Gs w (S.at w) :=
  ⟨h.c0, h.c1, h.c2, h.c3, h.fz, h.held, h.homes, h.noted, h.mem, h.nts, h.ap, h.nbp, h.wf, h.pl, h.nl, fun _ _ => rfl⟩
theorem Tb_at {X : Nat → Option Value} {w : World} {bt bm : Nat} {room last : Int} {l : Pc.Ps} (h : Pc.Tb X w bt bm room last l) : Pc.Tb (fun j => w.cell? ⟨bt, j, none⟩) w bt bm room last l :=
  ⟨h.c0, h.c1, h.c2, h.fz, fun _ _ => rfl, h.mp⟩
theorem Ks.lt {w : World} {K : Kst} (h : Ks w K) {k : Nat} (hk : hasK K k) : k < w.heap.size := by
  rcases hk with rfl | hk
  · exact h.t.ltm
  · exact h.g.lt hk
/-- What is not of the kernel may turn. -/
theorem Ks.mv {w w' : World} {K : Kst} {E : Nat → Prop} (h : Ks w K) (m : Mv E w w') (hE : ∀ k, hasK K k → ¬ E k) : Ks w' K := by
  have ht : ¬ E K.S.bt := hE _ (.inr (Cg.hasT K.S))
  refine ⟨Tb_at (h.t.mv m ht (hE _ (.inl rfl))), ?_, h.bm, m.cell (a := ⟨K.S.bt, 12, none⟩) ht h.c12, m.cell (a := ⟨K.S.bt, 13, none⟩) ht h.c13⟩
  exact (Gs_at (S := K.S.at w) (h.g.mv m (fun k hk => hE k (.inr hk))) : Cg.Gs w' ((K.S.at w).at w'))
theorem Ks.below {w w' : World} {K : Kst} (h : Ks w K) (b : Below w.heap.size w w') : Ks w' K := h.mv (E := fun _ => False) (Mv.below b) (fun _ _ h => h)
/-- From K at w to K' at w'. -/
structure Kg (K : Kst) (w : World) (K' : Kst) (w' : World) (d : Nat) : Prop where
  k : Ks w' K'
  bt : K'.S.bt = K.S.bt
  mv : Mv (hasK K) w w'
  gr : ∀ k, hasK K' k → hasK K k ∨ w.heap.size ≤ k
  c : K'.S.c ≤ K.S.c + d
  cells : ∀ j, 7 ≤ j → j < 12 → w'.cell? ⟨K.S.bt, j, none⟩ = w.cell? ⟨K.S.bt, j, none⟩
theorem Kg.trans {K L M : Kst} {w v u : World} {d e : Nat} (h : Kg K w L v d) (k : Kg L v M u e) : Kg K w M u (d + e) :=
  ⟨k.k, k.bt.trans h.bt, h.mv.trans h.gr k.mv, fun x hx => by
    rcases k.gr x hx with q | q
    · exact h.gr x q
    · exact .inr (Nat.le_trans h.mv.size q), by have := h.c; have := k.c; omega, fun j h1 h2 => by
      have := k.cells j h1 h2
      rw [h.bt] at this
      exact this.trans (h.cells j h1 h2)⟩
theorem Kg.refl {K : Kst} {w : World} (h : Ks w K) : Kg K w K w 0 := ⟨h, rfl, Mv.refl _ _, fun _ h => .inl h, by omega, fun _ _ _ => rfl⟩
theorem Kg.mono {K L : Kst} {w v : World} {d e : Nat} (h : Kg K w L v d) (hd : d ≤ e) : Kg K w L v e := ⟨h.k, h.bt, h.mv, h.gr, by have := h.c; omega, h.cells⟩
theorem Kg.below {K : Kst} {w w' : World} (h : Ks w K) (b : Below w.heap.size w w') : Kg K w K w' 0 :=
  ⟨h.below b, rfl, Mv.below b, fun _ h => .inl h, by omega, fun j _ _ => (Mv.below (E := fun _ => False) b).cellq (a := ⟨K.S.bt, j, none⟩) (fun h => h) h.t.lt⟩
/-- The table turns. -/
theorem Ks.proc {w w' : World} {K : Kst} {last : Int} {l : Pc.Ps} (h : Ks w K) (t : Pc.Tb (fun j => w.cell? ⟨K.S.bt, j, none⟩) w' K.S.bt K.bm K.room last l) (m : Mv (fun k => k = K.S.bt ∨ k = K.bm) w w') : Kg K w { K with last := last, l := l } w' 0 := by
  have cx : ∀ j, 3 ≤ j → w'.cell? ⟨K.S.bt, j, none⟩ = w.cell? ⟨K.S.bt, j, none⟩ := t.cx
  have g := h.g
  obtain ⟨n1, n2, n3, n4, n5, n6, n7⟩ := g.nes
  have nb1 : ∀ k, Cg.hasB K.S k → k ≠ K.bm := fun k hk e => h.bm (e ▸ hk)
  have off : ∀ k, k ≠ K.S.bt → Cg.hasB K.S k → ¬ (k = K.S.bt ∨ k = K.bm) := fun k x y z => by
    rcases z with z | z
    · exact x z
    · exact nb1 k y z
  obtain ⟨m1, a1, q1⟩ := g.held
  obtain ⟨m2, a2, q2⟩ := g.homes
  obtain ⟨m3, a3, q3⟩ := g.noted
  refine ⟨⟨Tb_at t, ⟨(cx 3 (by omega)).trans g.c0, (cx 4 (by omega)).trans g.c1, (cx 5 (by omega)).trans g.c2, (cx 6 (by omega)).trans g.c3, t.fz, ⟨m1, a1, q1.mv m (off _ n1.symm (Cg.hasH K.S))⟩, ⟨m2, a2, q2.mv m (off _ n2.symm (Cg.hasO K.S))⟩, ⟨m3, a3, q3.mv m (off _ n3.symm (Cg.hasN K.S))⟩, fun x hx => (g.mem x hx).mv m (off _ (n7 x hx).1.symm (Cg.hasG (S := K.S) hx)), g.nts.mv m (fun k hk => off k (g.nbs hk).1 (.inr hk)), g.ap, g.nbp, g.wf, g.pl, g.nl, fun _ _ => rfl⟩, h.bm, (cx 12 (by omega)).trans h.c12, (cx 13 (by omega)).trans h.c13⟩, rfl, m.mono (fun k _ e => ?_), fun k hk => .inl hk, by show K.S.c ≤ _; omega, fun j h1 _ => cx j (by omega)⟩
  rcases e with e | e
  · rw [e]; exact .inr (Cg.hasT K.S)
  · exact .inl e
/-- The groups turn. -/
theorem Ks.group {w w' : World} {K : Kst} {S' : Cg.St} {d : Nat} (h : Ks w K) (g : Cg.Goes (K.S.at w) w S' w' d) : Kg K w { K with S := S' } w' d := by
  have hbt : S'.bt = K.S.bt := g.bt
  have hx : S'.x = fun j => w.cell? ⟨K.S.bt, j, none⟩ := g.x
  have cx : ∀ j, (j < 3 ∨ 7 ≤ j) → w'.cell? ⟨K.S.bt, j, none⟩ = w.cell? ⟨K.S.bt, j, none⟩ := fun j hj => by
    have := g.g.cx j hj
    rw [hx, hbt] at this
    exact this
  obtain ⟨q1, q2⟩ := g.beside h.t.ltm (fun q => h.bm q)
  have t : Pc.Tb (fun j => w'.cell? ⟨S'.bt, j, none⟩) w' S'.bt K.bm K.room K.last K.l := by
    rw [hbt]
    obtain ⟨n, hn, es, c, hb, q⟩ := h.t.mp
    have fz := g.g.fz
    rw [hbt] at fz
    exact ⟨(cx 0 (by omega)).trans h.t.c0, (cx 1 (by omega)).trans h.t.c1, (cx 2 (by omega)).trans h.t.c2, fz, fun _ _ => rfl, n, hn, es, c, q1.trans hb, q⟩
  refine ⟨⟨t, Gs_at g.g, q2, ?_, ?_⟩, hbt, g.mv.mono (fun k _ e => .inr e), fun k hk => ?_, g.c, fun j h1 _ => cx j (.inr h1)⟩
  · show w'.cell? ⟨S'.bt, 12, none⟩ = _; rw [hbt]; exact (cx 12 (by omega)).trans h.c12
  · show w'.cell? ⟨S'.bt, 13, none⟩ = _; rw [hbt]; exact (cx 13 (by omega)).trans h.c13
  · rcases hk with hk | hk
    · exact .inl (.inl hk)
    · rcases g.gr k hk with q | q
      · exact .inl (.inr q)
      · exact .inr q
/-- A cell of the kernel's own turns. -/
theorem Ks.clock {w : World} {K : Kst} (h : Ks w K) (i : Nat) (hi : i = 12 ∨ i = 13) (x : Int) : Kg K w { K with mono := if i = 12 then x else K.mono, wall := if i = 13 then x else K.wall } (w.setCell ⟨K.S.bt, i, none⟩ (.int .i64 x)) 0 := by
  have m : Mv (fun k => k = K.S.bt) w (w.setCell ⟨K.S.bt, i, none⟩ (.int .i64 x)) := (Mv.refl (fun k => k = K.S.bt) w).setc (p := ⟨K.S.bt, i, none⟩) (.inl rfl) _
  have cx : ∀ j, j ≠ i → (w.setCell ⟨K.S.bt, i, none⟩ (.int .i64 x)).cell? ⟨K.S.bt, j, none⟩ = w.cell? ⟨K.S.bt, j, none⟩ := fun j hj => World.cell?_setCell_other _ _ _ _ (by intro e; cases e; exact hj rfl)
  have fx : ∀ j, (w.setCell ⟨K.S.bt, i, none⟩ (.int .i64 x)).frozen? ⟨K.S.bt, j, none⟩ = false := fun j => (World.frozen?_setCell _ _ _ _).trans (h.t.fz j)
  have g := h.g
  obtain ⟨n1, n2, n3, n4, n5, n6, n7⟩ := g.nes
  obtain ⟨m1, a1, q1⟩ := g.held
  obtain ⟨m2, a2, q2⟩ := g.homes
  obtain ⟨m3, a3, q3⟩ := g.noted
  obtain ⟨n, hn, ho⟩ := h.t.mp
  have hne : ¬ K.bm = K.S.bt := fun e => h.bm (e ▸ Cg.hasT K.S)
  refine ⟨⟨⟨(cx 0 (by omega)).trans h.t.c0, (cx 1 (by omega)).trans h.t.c1, (cx 2 (by omega)).trans h.t.c2, fx, fun _ _ => rfl, n, hn, Pc.ownsMap_mv ho m hne⟩, ⟨(cx 3 (by omega)).trans g.c0, (cx 4 (by omega)).trans g.c1, (cx 5 (by omega)).trans g.c2, (cx 6 (by omega)).trans g.c3, fx, ⟨m1, a1, q1.mv m n1.symm⟩, ⟨m2, a2, q2.mv m n2.symm⟩, ⟨m3, a3, q3.mv m n3.symm⟩, fun x hx => (g.mem x hx).mv m (n7 x hx).1.symm, g.nts.mv m (fun k hk => (g.nbs hk).1), g.ap, g.nbp, g.wf, g.pl, g.nl, fun _ _ => rfl⟩, h.bm, ?_, ?_⟩, rfl, m.mono (fun k _ e => by rw [e]; exact .inr (Cg.hasT K.S)), fun k hk => .inl hk, by show K.S.c ≤ _; omega, fun j h1 h2 => cx j (by omega)⟩
  · dsimp only
    rcases hi with rfl | rfl
    · rw [if_pos rfl]; exact World.cell?_setCell_same' _ _ _ (by rw [h.c12]; rfl)
    · rw [if_neg (by decide)]; exact (cx 12 (by decide)).trans h.c12
  · dsimp only
    rcases hi with rfl | rfl
    · rw [if_neg (by decide)]; exact (cx 13 (by decide)).trans h.c13
    · rw [if_pos rfl]; exact World.cell?_setCell_same' _ _ _ (by rw [h.c13]; rfl)
end Go.Proofs.YtgienkdfodjoiaaGreat
