/- The closure of unheld; slices.IndexFunc and slices.DeleteFunc with it. -/
import Derived.Test.YtjcdjkfnmobhkaaGreatQwWB
namespace Go.Proofs.YtjcdjkfnmobhkaaGreat.Qw
open Go.RowKit Go.Shelf Go.Lib
attribute [local go_sem] Oper.semAt_some
theorem WP.below {key : El → Int} {xs : List Rec} {t : Rec} {g o : Nat} {w V : World} {e : Ending} {w' : World} (b : Below w.heap.size w V) (h : WP key xs t g o V e w') : WP key xs t g o w e w' := by
  rcases h with ⟨rfl, h1, h2⟩ | ⟨i, x, b', rfl, h1, h2⟩
  · exact .inl ⟨rfl, h1, b.trans (h2.mono b.size)⟩
  · exact .inr ⟨i, x, b', rfl, ⟨h1.at_, h1.ah, h1.last, Nat.le_trans b.size h1.nw, h1.c0, h1.c1, h1.c2, h1.c3, h1.cg⟩, (Cv.below b).trans h2 (fun _ _ h => .inl h)⟩
/-- The closure's own: the queue's box, the others' box. -/
structure Cz (nb : NB) (q bq bo g o n cap : Nat) (w : World) : Prop where
  cq : w.cell? ⟨q, 0, none⟩ = some (fnV nb)
  cbq : w.cell? ⟨bq, 0, none⟩ = some (.pointer (some ⟨q, 0, none⟩))
  cbo : w.cell? ⟨bo, 0, none⟩ = some (slv g o n cap)
theorem Cz.below {nb : NB} {q bq bo g o n cap : Nat} {w V : World} (h : Cz nb q bq bo g o n cap w) (b : Below w.heap.size w V) : Cz nb q bq bo g o n cap V :=
  ⟨bcell b (cell_lt h.cq) h.cq, bcell b (cell_lt h.cbq) h.cbq, bcell b (cell_lt h.cbo) h.cbo⟩
theorem Cz.cv {S : Nat → Nat → Prop} {nb : NB} {q bq bo g o n cap : Nat} {w V : World} (h : Cz nb q bq bo g o n cap w) (m : Cv S w V) (h1 : ¬ S q 0) (h2 : ¬ S bq 0) (h3 : ¬ S bo 0) : Cz nb q bq bo g o n cap V :=
  ⟨m.cell h1 h.cq, m.cell h2 h.cbq, m.cell h3 h.cbo⟩
def clo (bq bo : Nat) : Value := .func (.func 81) #[] #[.pointer (some ⟨bq, 0, none⟩), .pointer (some ⟨bo, 0, none⟩)]
set_option maxRecDepth 100000 in
set_option maxHeartbeats 1000000 in
theorem clo_any {nb : NB} {key : El → Int} (hB : Bf nb key) {q bq bo g o cap : Nat} {xs : List Rec} (t : Rec) (w : World) (hz : Cz nb q bq bo g o xs.length cap w) (hx : RS w g o cap xs) (hl : xs.length ≤ 1000000) :
    Calls Tryz.prog 81 #[t.val, .pointer (some ⟨bq, 0, none⟩), .pointer (some ⟨bo, 0, none⟩)] w (WP key xs t g o w) := by
  obtain ⟨W0, hW0⟩ : ∃ W0, w.alloc (.cells #[vc0 t.v, vc1 t.v, vc2 t.v, vc3 t.v, vc4 t.v, vc5 t.v, .int .i64 t.t, ptrV t.p] 104) = W0 := ⟨_, rfl⟩
  have b0 : Below w.heap.size w W0 := by rw [← hW0]; exact (Below.refl _ _).alloc (Nat.le_refl _) _
  have z0 := hz.below b0
  have hC := waits_any hB q t W0 z0.cq (hx.cv (S := fun _ _ => False) (Cv.below b0) (fun _ _ _ h => h)) hl
  have hCH := hidP hC
  have z1 := z0.cbq
  have z2 := z0.cbo
  have n0 : W0.cell? ⟨w.heap.size, 0, none⟩ = some (vc0 t.v) ∧ W0.cell? ⟨w.heap.size, 1, none⟩ = some (vc1 t.v) ∧ W0.cell? ⟨w.heap.size, 2, none⟩ = some (vc2 t.v) ∧ W0.cell? ⟨w.heap.size, 3, none⟩ = some (vc3 t.v) ∧ W0.cell? ⟨w.heap.size, 4, none⟩ = some (vc4 t.v) ∧ W0.cell? ⟨w.heap.size, 5, none⟩ = some (vc5 t.v) := by rw [← hW0]; exact ⟨cell_at rfl rfl, cell_at rfl rfl, cell_at rfl rfl, cell_at rfl rfl, cell_at rfl rfl, cell_at rfl rfl⟩
  have n1 : W0.cell? ⟨w.heap.size, 6, none⟩ = some (.int .i64 t.t) := by rw [← hW0]; exact cell_at rfl rfl
  have n2 : W0.cell? ⟨w.heap.size, 7, none⟩ = some (ptrV t.p) := by rw [← hW0]; exact cell_at rfl rfl
  have b0H := hidP b0
  clear hz z0 hx hC hB b0
  unfold slv at z2
  unfold Rec.val at hCH ⊢
  go_enter Tryz.func81, Tryz.ntmps81
  go_wp2_with (rw [hW0])
  refine hCH.out.mono ?_
  intro e w' h
  have hH := hidP (h.below b0H.out)
  rcases h with ⟨rfl, _⟩ | ⟨i, x, b, rfl, _⟩
  · go_wp2_with fail
    go_ret
    exact hH.out
  · go_wp2_with fail
    go_ret
    exact hH.out
end Go.Proofs.YtjcdjkfnmobhkaaGreat.Qw
