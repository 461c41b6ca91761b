import Derived.Test.YtfjbonhlokbhpaaDoorZK
import Derived.Maps.AppendAt
import Derived.Maps.OwnIn
/- Rows that a function owns, and variables of one cell. -/
namespace Go.Proofs.YtfjbonhlokbhpaaDoor
open Go.RowKit Go.Shelf
theorem row_news1 (w : World) (c : Value) (t : TypeId) : ∀ j u, [c][j]? = some u → (w.alloc (.cells #[c] t)).cell? ((⟨w.heap.size, 0, none⟩ : Addr).add j) = some u := by
  intro j u hj
  match j, hj with
  | 0, hj => simp at hj; subst hj; simp [Addr.add]
theorem own_mv {w w' : World} {base : Nat} {e : TypeId} {size : Nat} {v : Value} {n : Nat} {xs : List Value} {E : Nat → Prop} (h : w.ownsRow base e size v n xs) (m : Mv E w w') (hE : ∀ g, v.ownBlock = some g → ¬ E g) : w'.ownsRow base e size v n xs := by
  refine ⟨h.1, ?_⟩
  rcases h.2 with h2 | ⟨g, cap, cur, h1, h2, h3, h4⟩
  · exact .inl h2
  · exact .inr ⟨g, cap, cur, h1, h2, (m.block g (Array.getElem?_eq_some_iff.1 h3).1 (hE g (by rw [h1]; rfl))).trans h3, h4⟩
theorem Mv.grown {E : Nat → Prop} {A W W' : World} {r : Option Nat} (h : Mv E A W) (hg : W.grownBy W' r) (hr : ∀ k, r = some k → E k ∨ A.heap.size ≤ k) : Mv E A W' :=
  ⟨hg.os.trans h.os, hg.tape.trans h.tape, hg.output.trans h.output, Nat.le_trans h.size hg.size, fun k hk he => (hg.block k (Nat.lt_of_lt_of_le hk h.size) (fun e => by rcases hr k e.symm with q | q; exact he q; omega)).trans (h.block k hk he)⟩
theorem Mv.setc {E : Nat → Prop} {A W : World} {p : Addr} (h : Mv E A W) (hp : E p.block ∨ A.heap.size ≤ p.block) (v : Value) : Mv E A (W.setCell p v) :=
  ⟨h.os, h.tape, h.output, by simpa using h.size, fun k hk he => (heap_setCell_other _ _ _ _ (fun e => by rcases hp with q | q; exact he (e ▸ q); omega)).trans (h.block k hk he)⟩
theorem Mv.froz {E : Nat → Prop} {W V : World} {a : Addr} (m : Mv E W V) (hE : ¬ E a.block) (hl : a.block < W.heap.size) : V.frozen? a = W.frozen? a := by
  have := m.block a.block hl hE
  unfold World.frozen?
  rw [this]
theorem Mv.set1 {E : Nat → Prop} {W : World} {o : Nat} (h : E o) (v : Value) : Mv E W (W.setCell ⟨o, 0, none⟩ v) := (Mv.refl E W).setc (p := ⟨o, 0, none⟩) (.inl h) v
structure Cl (i : Nat) (v : Value) (W : World) : Prop where
  c : W.cell? ⟨i, 0, none⟩ = some v
  f : W.frozen? ⟨i, 0, none⟩ = false
theorem Cl.lt {i : Nat} {v : Value} {W : World} (h : Cl i v W) : i < W.heap.size := cell_lt h.c
theorem Cl.mv {i : Nat} {v : Value} {E : Nat → Prop} {W V : World} (h : Cl i v W) (m : Mv E W V) (hE : ¬ E i) : Cl i v V :=
  ⟨m.cell hE h.c, (m.froz (a := ⟨i, 0, none⟩) hE h.lt).trans h.f⟩
theorem Cl.set {i : Nat} {v : Value} {W : World} (h : Cl i v W) (u : Value) : Cl i u (W.setCell ⟨i, 0, none⟩ u) :=
  ⟨World.cell?_setCell_same' _ _ _ (by rw [h.c]; rfl), by rw [World.frozen?_setCell]; exact h.f⟩
theorem Cl.oth {i j : Nat} {v : Value} {W : World} (h : Cl i v W) (hij : i ≠ j) (u : Value) : Cl i v (W.setCell ⟨j, 0, none⟩ u) := h.mv (E := fun k => k = j) (Mv.set1 (E := fun k => k = j) rfl _) hij
theorem own_base {w : World} {b1 b2 : Nat} {e : TypeId} {size : Nat} {v : Value} {n : Nat} {xs : List Value} (h : w.ownsRow b1 e size v n xs) (hle : b2 ≤ b1) : w.ownsRow b2 e size v n xs :=
  ⟨h.1, h.2.imp id (fun ⟨g, c, cu, q1, q2, q3⟩ => ⟨g, c, cu, q1, Nat.le_trans hle q2, q3⟩)⟩
theorem infoJ : (Tryd.prog.info? 2).map (fun i => (i.zero, i.size, i.bytes)) = some (some (.int .i64 0), 1, 8) := by kernel_rfl
end Go.Proofs.YtfjbonhlokbhpaaDoor
/- The contract of CalendarFrom's closure. -/
namespace Go.Proofs.YtfjbonhlokbhpaaDoor
open Go.RowKit Go.Shelf
set_option maxRecDepth 100000 in
set_option maxHeartbeats 4000000 in
theorem from1_any (B pl pn : Nat) (x : Int) (n : Nat) (v : Value) (acc : List Int) (W : World) (hB : B ≤ W.heap.size) (hpl : pl < B) (hpn : pn < B) (hne : pn ≠ pl) (ca : Cl pl v W) (cn : W.cell? ⟨pn, 0, none⟩ = some (.int .i64 n)) (ho : W.ownsRow B 2 1 v acc.length (acc.map (Value.int .i64))) (hal : acc.length ≤ 250) :
    Calls Tryd.prog 11 #[.int .i64 x, .pointer (some ⟨pl, 0, none⟩), .pointer (some ⟨pn, 0, none⟩)] W fun e W' => e = .returned (.bool (decide (acc.length + 1 < n))) ∧ ∃ v', Cl pl v' W' ∧ W'.ownsRow B 2 1 v' (acc.length + 1) ((acc ++ [x]).map (Value.int .i64)) ∧ Mv (fun k => k = pl ∨ v.ownBlock = some k) W W' ∧ (∀ k, v'.ownBlock = some k → v.ownBlock = some k ∨ W.heap.size ≤ k) := by
  obtain ⟨j0, jinf, jz0, jz1, jz2⟩ := info_parts infoJ
  have a0 := ca.c
  have hr1 := ho.alloc (.cells #[.int .i64 x] 2)
  go_enter Tryd.func11, Tryd.ntmps11
  go_wp2_with (at_builtin; refine wpList_append_own_at _ rfl _ _ 27 rfl B 2 j0 (.int .i64 0) 1 8 Tryd.underlying27 jinf jz0 jz1 jz2 rfl (by decide) _ _ _ rfl hr1 ⟨W.heap.size, 0, none⟩ 1 1 [.int .i64 x] rfl rfl (row_news1 W _ _) (fun x hx => by simp at hx; subst hx; rfl) (by unfold maxLen; omega) (by omega) (by simp; omega) ?_)
  intro v' w4 hown' hgrow _ hat
  have mg : Mv (fun k => v.ownBlock = some k) W w4 := (Mv.alloc _ _ _).grown hgrow (fun k e => .inl e)
  have nb : ∀ k, k < B → ¬ v.ownBlock = some k := fun k hk e => by have := (ho.lt k e).1; omega
  have c4 := ca.mv mg (nb _ hpl)
  have n4 := mg.cell (nb _ hpn) cn
  have mset : Mv (fun k => k = pl) w4 (w4.setCell ⟨pl, 0, none⟩ v') := Mv.set1 (E := fun k => k = pl) rfl _
  obtain ⟨w5, hw5⟩ : ∃ w5, w4.setCell ⟨pl, 0, none⟩ v' = w5 := ⟨_, rfl⟩
  have c5 := c4.set v'
  rw [hw5] at c5 mset
  have h4 : ∀ k, v'.ownBlock = some k → B ≤ k := fun k hk => (hown'.lt k hk).1
  have ho5 := own_mv hown' mset (fun g hg e => by have := h4 g hg; omega)
  have m5 : Mv (fun k => k = pl ∨ v.ownBlock = some k) W w5 := (mg.mono (fun k _ e => .inr e)).trans' (mset.mono (fun k _ e => .inl e))
  have n5 := mset.cell (show ¬ pn = pl from hne) n4
  have hq : Hid (∀ k, v'.ownBlock = some k → v.ownBlock = some k ∨ W.heap.size ≤ k) := fun k hk => by
    rcases hat with e | e
    · exact .inl (e ▸ hk)
    · rw [hk] at e; cases e; right; simp
  obtain ⟨gg, cap', rfl⟩ := ownsRow_succ hown'
  have g0 := c4.c
  have g1 := c4.f
  have g2 := c5.c
  have g3 := n5
  have hd : Hid (decide (((acc.length : Int) + 1) < (n : Int)) = decide (acc.length + 1 < n)) := by show _ = _; rw [Bool.eq_iff_iff]; simp; omega
  clear hat
  go_wp2_with (rw [hw5])
  go_ret
  exact ⟨ret_bool hd.out, _, c5, by simpa using ho5, m5, hq.out⟩
end Go.Proofs.YtfjbonhlokbhpaaDoor
