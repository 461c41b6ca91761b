/- What lies in memory while a month's dates are told to CivilMonths's own function; that function's contract. -/
import Derived.Test.YtgogbbhbkckfgaaDoorK1
import Derived.RangeFuncBox
import Derived.Maps.AppendAt
import Derived.OwnWalk
namespace Go.Proofs.YtgogbbhbkckfgaaDoor
open Go.RowKit
/-- The cells of the first k dates of a month. -/
def datL (y m : Int) : Nat → List Value
  | 0 => []
  | k + 1 => datL y m k ++ [.int .i64 y, .int .i64 m, .int .i64 ((k : Int) + 1)]
theorem info23 : (Tryd.prog.info? 23).map (fun i => (i.zero, i.size, i.bytes)) = some (some (.agg #[.int .i64 0, .int .i64 0, .int .i64 0]), 3, 24) := by kernel_rfl
/-- k dates have come: the list's box and what it owns, the boxes of the year and the month; what lay in w below n lies as it lay. -/
structure MoSt (w : World) (n bl bx bm : Nat) (y m : Int) (k : Nat) (W : World) : Prop where
  sl : ∃ v, Boxed W bl 49 v ∧ W.ownsRow n 23 3 v k (datL y m k)
  cy : Boxed W bx 3 (.int .i64 y)
  cm : Boxed W bm 3 (.int .i64 m)
  bel : Below n w W
theorem three_new (w : World) (a b c : Value) (t : TypeId) : ∀ j u, [a, b, c][j]? = some u → (w.alloc (.cells #[a, b, c] t)).cell? ((⟨w.heap.size, 0, none⟩ : Addr).add j) = some u := by
  intro j u hj
  match j, hj with
  | 0, hj => simp at hj; subst hj; simp [Addr.add]
  | 1, hj => simp at hj; subst hj; simp [Addr.add]
  | 2, hj => simp at hj; subst hj; simp [Addr.add]
theorem MoSt.next {w W w3 : World} {n bl bx bm : Nat} {y m : Int} {k : Nat} {v v' : Value} {A : Obj} (hv : Boxed W bl 49 v) (hrow : W.ownsRow n 23 3 v k (datL y m k)) (cy : Boxed W bx 3 (.int .i64 y)) (cm : Boxed W bm 3 (.int .i64 m)) (bel : Below n w W) (hn : n ≤ w.heap.size) (hbl : n ≤ bl) (hne1 : bx ≠ bl) (hne2 : bm ≠ bl)
    (hown' : w3.ownsRow n 23 3 v' (k + 1) (datL y m k ++ [.int .i64 y, .int .i64 m, .int .i64 ((k : Int) + 1)])) (hgrow : ((W.alloc A).alloc A).grownBy w3 v.ownBlock) : MoSt w n bl bx bm y m (k + 1) (w3.setCell ⟨bl, 0, none⟩ v') := by
  have hsz := bel.size
  have hr0 := hrow.alloc A
  have hr1 := hr0.alloc A
  obtain ⟨_, hv2, hr2, _, hb2⟩ := (hv.alloc A).appended (by decide) hr0 (by simp; omega) hbl hown' hgrow
  have g1 : Boxed w3 bx 3 (.int .i64 y) := ((cy.alloc A).alloc A).kept hgrow (((cy.alloc A).alloc A).not_row (by decide) hr1)
  have g2 : Boxed w3 bm 3 (.int .i64 m) := ((cm.alloc A).alloc A).kept hgrow (((cm.alloc A).alloc A).not_row (by decide) hr1)
  exact ⟨⟨_, hv2, hr2⟩, g1.kept (grownBy_setCell' w3 bl _) (by simpa using hne1), g2.kept (grownBy_setCell' w3 bl _) (by simpa using hne2), (bel.alloc (by omega) _).trans hb2⟩
theorem ne_block {a b : Nat} (h : a ≠ b) : (⟨a, 0, none⟩ : Addr) ≠ ⟨b, 0, none⟩ := fun e => h (by cases e; rfl)
set_option maxRecDepth 100000 in
set_option maxHeartbeats 2000000 in
theorem yieldM (w : World) (n bl bs bx bm : Nat) (y m stop : Int) (k : Nat) (W : World) (st : MoSt w n bl bx bm y m k W) (hn : n ≤ w.heap.size) (hbs : bs < n) (hcs : w.cell? ⟨bs, 0, none⟩ = some (.int .i64 stop)) (hbl : n ≤ bl) (hne1 : bx ≠ bl) (hne2 : bm ≠ bl) (hk : k + 1 < 40) :
    Calls Tryd.prog 24 #[.agg #[.int .i64 y, .int .i64 m, .int .i64 ((k : Int) + 1)], .pointer (some ⟨bl, 0, none⟩), .pointer (some ⟨bs, 0, none⟩)] W fun e W' => e = .returned (.bool (!decide ((k : Int) + 1 = stop))) ∧ MoSt w n bl bx bm y m (k + 1) W' := by
  obtain ⟨⟨v, hv, hrow⟩, cy, cm, bel⟩ := st
  have hsz := bel.size
  have hcv := hv.cell
  have hvl := hv.lt
  have hc1 : (W.alloc (.cells #[.int .i64 y, .int .i64 m, .int .i64 ((k : Int) + 1)] 23)).cell? ⟨bl, 0, none⟩ = some v := (hv.alloc _).cell
  obtain ⟨i0, hi, hz0, hz1, hz2⟩ := info_parts info23
  have hB0 : Below n w (W.alloc (.cells #[.int .i64 y, .int .i64 m, .int .i64 ((k : Int) + 1)] 23)) := bel.alloc (by omega) _
  have hr0 := hrow.alloc (.cells #[.int .i64 y, .int .i64 m, .int .i64 ((k : Int) + 1)] 23)
  have hnb : (⟨bl, 0, none⟩ : Addr) ≠ ⟨bs, 0, none⟩ := ne_block (by omega)
  by_cases hst : (k : Int) + 1 = stop
  · subst hst
    go_enter Tryd.func24, Tryd.ntmps24
    go_wp2_with (at_builtin; refine wpList_append_own_at _ rfl _ _ 49 rfl n 23 i0 (.agg #[.int .i64 0, .int .i64 0, .int .i64 0]) 3 24 Tryd.underlying49 hi hz0 hz1 hz2 rfl (by decide) _ _ _ rfl (hr0.alloc _) ⟨W.heap.size + 1, 0, none⟩ 1 1 [.int .i64 y, .int .i64 m, .int .i64 ((k : Int) + 1)] rfl rfl (by simpa using three_new (W.alloc (.cells #[.int .i64 y, .int .i64 m, .int .i64 ((k : Int) + 1)] 23)) (.int .i64 y) (.int .i64 m) (.int .i64 ((k : Int) + 1)) 23) (fun x hx => by simp at hx; rcases hx with rfl | rfl | rfl <;> rfl) (by unfold maxLen; omega) (by omega) (by simp; omega) ?_; intro v' w3 hown' hgrow _ _; obtain ⟨g', cap', rfl⟩ := ownsRow_succ hown'; obtain ⟨hv1, hv2, hr2, hk2, hb2⟩ := (hv.alloc _).appended (by decide) hr0 (by simp; omega) hbl hown' hgrow; have hc2 := hv1.cell; have hf2 := hv1.frozen; have hfin := MoSt.next hv hrow cy cm bel hn hbl hne1 hne2 hown' hgrow; have hs2 := (hb2.cell (p := ⟨bs, 0, none⟩) hbs).trans ((hB0.cell (p := ⟨bs, 0, none⟩) hbs).trans hcs); have hs3 := (World.cell?_setCell_other _ _ _ _ hnb).symm.trans hs2)
    go_ret
    exact ⟨ret_bool (by simp), hfin⟩
  · go_enter Tryd.func24, Tryd.ntmps24
    go_wp2_with (at_builtin; refine wpList_append_own_at _ rfl _ _ 49 rfl n 23 i0 (.agg #[.int .i64 0, .int .i64 0, .int .i64 0]) 3 24 Tryd.underlying49 hi hz0 hz1 hz2 rfl (by decide) _ _ _ rfl (hr0.alloc _) ⟨W.heap.size + 1, 0, none⟩ 1 1 [.int .i64 y, .int .i64 m, .int .i64 ((k : Int) + 1)] rfl rfl (by simpa using three_new (W.alloc (.cells #[.int .i64 y, .int .i64 m, .int .i64 ((k : Int) + 1)] 23)) (.int .i64 y) (.int .i64 m) (.int .i64 ((k : Int) + 1)) 23) (fun x hx => by simp at hx; rcases hx with rfl | rfl | rfl <;> rfl) (by unfold maxLen; omega) (by omega) (by simp; omega) ?_; intro v' w3 hown' hgrow _ _; obtain ⟨g', cap', rfl⟩ := ownsRow_succ hown'; obtain ⟨hv1, hv2, hr2, hk2, hb2⟩ := (hv.alloc _).appended (by decide) hr0 (by simp; omega) hbl hown' hgrow; have hc2 := hv1.cell; have hf2 := hv1.frozen; have hfin := MoSt.next hv hrow cy cm bel hn hbl hne1 hne2 hown' hgrow; have hs2 := (hb2.cell (p := ⟨bs, 0, none⟩) hbs).trans ((hB0.cell (p := ⟨bs, 0, none⟩) hbs).trans hcs); have hs3 := (World.cell?_setCell_other _ _ _ _ hnb).symm.trans hs2)
    go_ret
    exact ⟨ret_bool (by simp [hst]; omega), hfin⟩
end Go.Proofs.YtgogbbhbkckfgaaDoor
