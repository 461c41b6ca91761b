/- A queue by what is in it: New, Len, Peek, Push, Pop. -/
import Derived.Test.YtjcdjkfnmobhkaaGreatQwIB
namespace Go.Proofs.YtjcdjkfnmobhkaaGreat.Qw
open Go.RowKit Go.Shelf Go.Lib
attribute [local go_sem] Oper.semAt_some
/-- A queue holds the elements L, in order; n were pushed. -/
def Qu (nb : NB) (key : El → Int) (w : World) (q : Nat) (E B : Nat → Prop) (L : List El) (n : Nat) : Prop :=
  ∃ v xs F L', Qm nb w q B v xs F L.length n ∧ QI key F L' n ∧ L'.map (·.1) = L ∧ L.length ≤ n ∧ n ≤ 200000 ∧ ∀ k, E k ↔ (k = q ∨ nbk v = some k)
theorem Qu.lt {nb : NB} {key : El → Int} {w : World} {q : Nat} {E B : Nat → Prop} {L : List El} {n : Nat} (h : Qu nb key w q E B L n) : (∀ k, E k → k < w.heap.size) ∧ (∀ k, B k → k < w.heap.size) := by
  obtain ⟨v, xs, F, L', h1, _, _, _, _, h6⟩ := h
  refine ⟨fun k hk => ?_, h1.lo⟩
  rcases (h6 k).1 hk with rfl | hk
  · exact h1.lt
  · exact h1.sv.lt hk
theorem Qu.mv {D : Nat → Prop} {nb : NB} {key : El → Int} {w V : World} {q : Nat} {E B : Nat → Prop} {L : List El} {n : Nat} (h : Qu nb key w q E B L n) (m : Mv D w V) (h1 : ∀ k, E k → ¬ D k) (h2 : ∀ k, B k → ¬ D k) : Qu nb key V q E B L n := by
  obtain ⟨v, xs, F, L', a1, a2, a3, a4, a5, a6⟩ := h
  exact ⟨v, xs, F, L', a1.mv m (h1 q ((a6 q).2 (.inl rfl))) (fun k hk => h1 k ((a6 k).2 (.inr hk))) h2, a2, a3, a4, a5, a6⟩
/-- From one state to another one. -/
def Qg (nb : NB) (key : El → Int) (w : World) (q : Nat) (E B : Nat → Prop) (L : List El) (n : Nat) (V : World) : Prop :=
  ∃ E' B', Qu nb key V q E' B' L n ∧ Mv E w V ∧ Gr E w E' ∧ Gr B w B'
set_option maxRecDepth 100000 in
set_option maxHeartbeats 1000000 in
theorem new_any {nb : NB} (hf : nb.f = .func (.func nb.n) #[] #[]) (hX : nb.X = fun _ => none) {key : El → Int} (w : World) : Calls Tryz.prog 30 #[fnV nb] w fun e V => e = .returned (qp w.heap.size) ∧ Qu nb key V w.heap.size (fun k => k = w.heap.size) (fun _ => False) [] 0 ∧ Below w.heap.size w V := by
  obtain ⟨V, hV⟩ : ∃ V, w.alloc (.cells #[.func (.func nb.n) #[] #[], .slice none 0 0, .int .i64 0, .int .i64 0] 70) = V := ⟨_, rfl⟩
  have c : ∀ j u, #[Value.func (.func nb.n) #[] #[], .slice none 0 0, .int .i64 0, .int .i64 0][j]? = some u → V.cell? ⟨w.heap.size, j, none⟩ = some u := fun j u hj => by rw [← hV]; exact cell_at rfl hj
  have f : ∀ j, V.frozen? ⟨w.heap.size, j, none⟩ = false := fun j => by rw [← hV]; exact froz_new rfl
  have fin : Hid (Qu nb key V w.heap.size (fun k => k = w.heap.size) (fun _ => False) [] 0 ∧ Below w.heap.size w V) :=
    ⟨⟨.slice none 0 0, [], [], [], ⟨(by unfold fnV; rw [hf]; exact c 0 _ rfl), c 1 _ rfl, c 2 _ rfl, c 3 _ rfl, f 1, f 2, f 3, .inl ⟨rfl, rfl⟩, trivial, (fun e => by cases e), (fun _ h => h.elim), (fun _ h => h.elim), by simp, ⟨fun j hj => by rw [hX, ← hV]; exact cell_new_none rfl (by simp; omega), fun j _ => by rw [← hV]; exact froz_new rfl⟩⟩, QI.nil key 0, rfl, Nat.le_refl _, by omega, fun k => ⟨.inl, fun h => h.elim id (fun e => by cases e)⟩⟩, by rw [← hV]; exact (Below.refl _ _).alloc (Nat.le_refl _) _⟩
  unfold fnV qp
  rw [hf]
  clear c f
  go_enter Tryz.func30, Tryz.ntmps30
  go_wp2_with (rw [hV])
  go_ret
  exact ⟨rfl, fin.out⟩
set_option maxRecDepth 100000 in
set_option maxHeartbeats 1000000 in
theorem len_any {nb : NB} {key : El → Int} {w : World} {q : Nat} {E B : Nat → Prop} {L : List El} {n : Nat} (h : Qu nb key w q E B L n) : Calls Tryz.prog 41 #[qp q] w fun e V => e = .returned (.int .i64 L.length) ∧ V = w := by
  obtain ⟨v, xs, F, L', a1, _⟩ := h
  have c2 := a1.c2
  obtain ⟨m, hm⟩ : ∃ m, L.length = m := ⟨_, rfl⟩
  rw [hm] at c2 ⊢
  clear a1 hm
  unfold qp
  go_enter Tryz.func41, Tryz.ntmps41
  go_wp2_with fail
  go_ret
  exact ⟨rfl, rfl⟩
set_option maxRecDepth 100000 in
set_option maxHeartbeats 4000000 in
theorem push_any {nb : NB} {key : El → Int} (hB : Bf nb key) {w : World} {q : Nat} {E B : Nat → Prop} {L : List El} {n : Nat} (h : Qu nb key w q E B L n) (hn : n < 200000) (x : El) :
    Calls Tryz.prog 32 #[qp q, ev x] w fun e V => e = .returned (.tuple #[]) ∧ Qg nb key w q E B (insA key x L) (n + 1) V := by
  obtain ⟨w0, hw0⟩ : ∃ w0, w.alloc (.cells #[vc0 x, vc1 x, vc2 x, vc3 x, vc4 x, vc5 x] 77) = w0 := ⟨_, rfl⟩
  have bw0 : Below w.heap.size w w0 := by rw [← hw0]; exact (Below.refl _ _).alloc (Nat.le_refl _) _
  obtain ⟨bx, hbx⟩ : ∃ bx, w.heap.size = bx := ⟨_, rfl⟩
  have lbx : bx < w0.heap.size := by rw [← hw0]; simp [hbx]
  have bxc : (w0.cell? ⟨bx, 0, none⟩ = some (vc0 x) ∧ w0.cell? ⟨bx, 1, none⟩ = some (vc1 x) ∧ w0.cell? ⟨bx, 2, none⟩ = some (vc2 x) ∧ w0.cell? ⟨bx, 3, none⟩ = some (vc3 x) ∧ w0.cell? ⟨bx, 4, none⟩ = some (vc4 x) ∧ w0.cell? ⟨bx, 5, none⟩ = some (vc5 x)) := by rw [← hw0]; exact ⟨cell_at hbx rfl, cell_at hbx rfl, cell_at hbx rfl, cell_at hbx rfl, cell_at hbx rfl, cell_at hbx rfl⟩
  have hlt := (Qu.lt h).1
  obtain ⟨v, xs, F, L', a1, a2, a3, a4, a5, a6⟩ := h.mv (D := fun _ => False) (Mv.below bw0) (fun _ _ h => h) (fun _ _ h => h)
  have nvb : nbk v ≠ some bx := fun e => by have := hlt bx ((a6 bx).2 (.inr e)); omega
  obtain ⟨pv, cv, hv⟩ := a1.sv.shape
  obtain ⟨nv, hnv⟩ : ∃ nv, xs.length = nv := ⟨_, rfl⟩
  rw [hnv] at hv
  obtain ⟨N, hN⟩ : ∃ N, w0.heap.size = N := ⟨_, rfl⟩
  obtain ⟨A, hA⟩ : ∃ A, w0.drew.alloc (.cells #[vc0 x, vc1 x, vc2 x, vc3 x, vc4 x, vc5 x, .int .i64 n, .pointer none] 104) = A := ⟨_, rfl⟩
  have hbA : Below w0.heap.size w0 A := by rw [← hA]; exact ((Below.refl _ _).drew).alloc (Nat.le_refl _) _
  have hmA := a1.below hbA
  have hrA : RS A N 0 1 [⟨x, n, none⟩] := by
    have c : ∀ j u, #[vc0 x, vc1 x, vc2 x, vc3 x, vc4 x, vc5 x, .int .i64 n, .pointer none][j]? = some u → A.cell? ⟨N, j, none⟩ = some u := fun j u hj => by rw [← hA]; exact cell_at hN hj
    refine ⟨by simp, ⟨by rw [← hA]; simp [hN], by unfold maxLen; omega, fun j hj => ?_, fun j hj => by rw [← hA]; exact froz_new hN⟩, fun j u hj => ?_⟩
    · rw [Nat.zero_add]
      match j, hj with
      | 0, _ => rw [c 0 _ rfl]; rfl
      | 1, _ => rw [c 1 _ rfl]; rfl
      | 2, _ => rw [c 2 _ rfl]; rfl
      | 3, _ => rw [c 3 _ rfl]; rfl
      | 4, _ => rw [c 4 _ rfl]; rfl
      | 5, _ => rw [c 5 _ rfl]; rfl
      | 6, _ => rw [c 6 _ rfl]; rfl
      | 7, _ => rw [c 7 _ rfl]; rfl
      | j + 8, hj => omega
    · rw [Nat.zero_add]
      match j, hj with
      | 0, hj => exact c 0 _ hj
      | 1, hj => exact c 1 _ hj
      | 2, hj => exact c 2 _ hj
      | 3, hj => exact c 3 _ hj
      | 4, hj => exact c 4 _ hj
      | 5, hj => exact c 5 _ hj
      | 6, hj => exact c 6 _ hj
      | 7, hj => exact c 7 _ hj
      | j + 8, hj => simp [flat] at hj
  have hS : w0.drew.cell? ⟨q, 1, none⟩ = some (.slice pv nv cv) ∧ w0.drew.cell? ⟨q, 3, none⟩ = some (.int .i64 n) ∧ (w0.drew.cell? ⟨bx, 0, none⟩ = some (vc0 x) ∧ w0.drew.cell? ⟨bx, 1, none⟩ = some (vc1 x) ∧ w0.drew.cell? ⟨bx, 2, none⟩ = some (vc2 x) ∧ w0.drew.cell? ⟨bx, 3, none⟩ = some (vc3 x) ∧ w0.drew.cell? ⟨bx, 4, none⟩ = some (vc4 x) ∧ w0.drew.cell? ⟨bx, 5, none⟩ = some (vc5 x)) := ⟨by rw [← hv]; exact a1.c1, a1.c3, bxc⟩
  have hS1 : A.cell? ⟨q, 1, none⟩ = some (.slice pv nv cv) ∧ A.cell? ⟨q, 3, none⟩ = some (.int .i64 n) ∧ (A.cell? ⟨bx, 0, none⟩ = some (vc0 x) ∧ A.cell? ⟨bx, 1, none⟩ = some (vc1 x) ∧ A.cell? ⟨bx, 2, none⟩ = some (vc2 x) ∧ A.cell? ⟨bx, 3, none⟩ = some (vc3 x) ∧ A.cell? ⟨bx, 4, none⟩ = some (vc4 x) ∧ A.cell? ⟨bx, 5, none⟩ = some (vc5 x)) := ⟨by rw [← hv]; exact hmA.c1, hmA.c3, ⟨bcell hbA lbx bxc.1, bcell hbA lbx bxc.2.1, bcell hbA lbx bxc.2.2.1, bcell hbA lbx bxc.2.2.2.1, bcell hbA lbx bxc.2.2.2.2.1, bcell hbA lbx bxc.2.2.2.2.2⟩⟩
  obtain ⟨m, hm⟩ := a2.fl
  have hqN : q < N := by rw [← hN]; exact a1.lt
  obtain ⟨cn, hcn⟩ : ∃ cn, L.length = cn := ⟨_, rfl⟩
  have hJ : Hid (Calls Tryz.prog 49 #[qp q, .slice pv nv cv, slv N 0 1 1] A fun e V1 => ∃ pv2 nv2 cv2, e = .returned (.slice pv2 nv2 cv2) ∧ (V1.cell? ⟨q, 1, none⟩ = some (.slice pv nv cv) ∧ V1.cell? ⟨q, 3, none⟩ = some (.int .i64 n) ∧ (V1.cell? ⟨bx, 0, none⟩ = some (vc0 x) ∧ V1.cell? ⟨bx, 1, none⟩ = some (vc1 x) ∧ V1.cell? ⟨bx, 2, none⟩ = some (vc2 x) ∧ V1.cell? ⟨bx, 3, none⟩ = some (vc3 x) ∧ V1.cell? ⟨bx, 4, none⟩ = some (vc4 x) ∧ V1.cell? ⟨bx, 5, none⟩ = some (vc5 x))) ∧ (V1.frozen? ⟨q, 1, none⟩ = false ∧ ∃ V2, V1.setCell ⟨q, 1, none⟩ (.slice pv2 nv2 cv2) = V2 ∧ V2.cell? ⟨q, 3, none⟩ = some (.int .i64 n) ∧ V2.cell? ⟨q, 2, none⟩ = some (.int .i64 cn) ∧ V2.frozen? ⟨q, 3, none⟩ = false ∧ V2.frozen? ⟨q, 2, none⟩ = false ∧ ∃ V3, V2.setCell ⟨q, 3, none⟩ (.int .i64 (n + 1)) = V3 ∧ (V3.cell? ⟨q, 2, none⟩ = some (.int .i64 cn) ∧ V3.frozen? ⟨q, 2, none⟩ = false) ∧ ∃ V4, V3.setCell ⟨q, 2, none⟩ (.int .i64 (cn + 1)) = V4 ∧ Qg nb key w0 q E B (insA key x L) (n + 1) V4)) := by
    have c := join_push hB hmA hm (y := ⟨x, n, .nil⟩) hrA ⟨⟨rfl, rfl, rfl⟩, trivial⟩ rfl (fun k hk e => by have := a1.lo k hk; omega) (by omega) (fun e => by have := a1.sv.lt e; omega)
    rw [hv] at c
    refine c.mono ?_
    rintro e V1 ⟨v', xs', B1, rfl, sv', rf', gr, hb1, mv, at', nq'⟩
    obtain ⟨pv2, cv2, hv2⟩ := sv'.shape
    have hbA' := hbA.size
    have lo1 : ∀ k, nbk v = some k → k < N := fun k hk => by rw [← hN]; exact a1.sv.lt hk
    have nqe : ¬ (nbk (.slice pv nv cv) = some q ∨ q = N) := by
      rw [← hv]
      rintro (e | e)
      · exact a1.nq e
      · omega
    have lqA := hmA.lt
    have nbe : ¬ (nbk (.slice pv nv cv) = some bx ∨ bx = N) := by
      rw [← hv]
      rintro (e | e)
      · exact nvb e
      · omega
    have d0 := mv.cell (a := ⟨q, 0, none⟩) nqe hmA.c0
    have d1 := mv.cell (a := ⟨q, 1, none⟩) nqe hS1.1
    have d2 := mv.cell (a := ⟨q, 2, none⟩) nqe hmA.c2
    have d3 := mv.cell (a := ⟨q, 3, none⟩) nqe hmA.c3
    have g1 := (mv.froz (a := ⟨q, 1, none⟩) nqe lqA).trans hmA.f1
    have g2 := (mv.froz (a := ⟨q, 2, none⟩) nqe lqA).trans hmA.f2
    have g3 := (mv.froz (a := ⟨q, 3, none⟩) nqe lqA).trans hmA.f3
    have dx := hmA.xt.mv mv nqe lqA
    rw [hcn] at d2
    obtain ⟨V2, hV2⟩ : ∃ V2, V1.setCell ⟨q, 1, none⟩ v' = V2 := ⟨_, rfl⟩
    obtain ⟨V3, hV3⟩ : ∃ V3, V2.setCell ⟨q, 3, none⟩ (.int .i64 (n + 1)) = V3 := ⟨_, rfl⟩
    obtain ⟨V4, hV4⟩ : ∃ V4, V3.setCell ⟨q, 2, none⟩ (.int .i64 (cn + 1)) = V4 := ⟨_, rfl⟩
    have k2 : Cv (fun k j => k = q ∧ j = 1) V1 V2 := by rw [← hV2]; exact Cv.one _ _ _ _
    have k3 : Cv (fun k j => k = q ∧ j = 3) V2 V3 := by rw [← hV3]; exact Cv.one _ _ _ _
    have k4 : Cv (fun k j => k = q ∧ j = 2) V3 V4 := by rw [← hV4]; exact Cv.one _ _ _ _
    have l1 : q < V1.heap.size := cell_lt d0
    have l2 : q < V2.heap.size := Nat.lt_of_lt_of_le l1 k2.size
    have l3 : q < V3.heap.size := Nat.lt_of_lt_of_le l2 k3.size
    have m2 : Mv (fun k => k = q) V1 V4 := ((k2.mv.mono fun k _ s => by obtain ⟨j, s, _⟩ := s; exact s).trans' (k3.mv.mono fun k _ s => by obtain ⟨j, s, _⟩ := s; exact s)).trans' (k4.mv.mono fun k _ s => by obtain ⟨j, s, _⟩ := s; exact s)
    have p2 := k2.cell (k := q) (j := 2) (by omega) d2
    have p3 := k2.cell (k := q) (j := 3) (by omega) d3
    have p32 := k3.cell (k := q) (j := 2) (by omega) p2
    have f2 := (k2.fr q 2 l1).trans g2
    have f3 := (k2.fr q 3 l1).trans g3
    have f32 := (k3.fr q 2 l2).trans f2
    have hV2' := hV2
    rw [hv2] at hV2'
    refine ⟨pv2, xs'.length, cv2, by rw [hv2], ⟨d1, d3, ⟨mv.cell (a := ⟨bx, 0, none⟩) nbe hS1.2.2.1, mv.cell (a := ⟨bx, 1, none⟩) nbe hS1.2.2.2.1, mv.cell (a := ⟨bx, 2, none⟩) nbe hS1.2.2.2.2.1, mv.cell (a := ⟨bx, 3, none⟩) nbe hS1.2.2.2.2.2.1, mv.cell (a := ⟨bx, 4, none⟩) nbe hS1.2.2.2.2.2.2.1, mv.cell (a := ⟨bx, 5, none⟩) nbe hS1.2.2.2.2.2.2.2⟩⟩, g1, V2, hV2', p3, p2, f3, f2, V3, hV3, ⟨p32, f32⟩, V4, hV4, ?_⟩
    have grw : Gr B w0 B1 := fun k hk => (gr k hk).imp id (fun s => Nat.le_trans hbA.size s)
    have atw : nbk v' = nbk v ∨ ∃ k, nbk v' = some k ∧ w0.heap.size ≤ k := by
      rw [← hv] at at'
      rcases at' with s | ⟨k, s, hk⟩
      · exact .inl s
      · exact .inr ⟨k, s, Nat.le_trans hbA.size hk⟩
    have xl : xs'.length ≤ 300000 := by
      rw [rf'.len]
      refine Nat.le_trans joinL_len ?_
      have := a2.len
      have e1 : L'.length = L.length := by rw [← a3]; simp
      simp; omega
    have e0 : V4.cell? ⟨q, 0, none⟩ = some (fnV nb) := k4.cell (k := q) (j := 0) (by omega) (k3.cell (k := q) (j := 0) (by omega) (k2.cell (k := q) (j := 0) (by omega) d0))
    have e1 : V4.cell? ⟨q, 1, none⟩ = some v' := k4.cell (k := q) (j := 1) (by omega) (k3.cell (k := q) (j := 1) (by omega) (by rw [← hV2]; exact World.cell?_setCell_same _ _ _ d1))
    have e2 : V4.cell? ⟨q, 2, none⟩ = some (.int .i64 (cn + 1)) := by rw [← hV4]; exact World.cell?_setCell_same _ _ _ p32
    have e3 : V4.cell? ⟨q, 3, none⟩ = some (.int .i64 (n + 1)) := k4.cell (k := q) (j := 3) (by omega) (by rw [← hV3]; exact World.cell?_setCell_same _ _ _ p3)
    have fr : ∀ j, V4.frozen? ⟨q, j, none⟩ = V1.frozen? ⟨q, j, none⟩ := fun j => ((k4.fr q j l3).trans (k3.fr q j l2)).trans (k2.fr q j l1)
    refine ⟨fun k => k = q ∨ nbk v' = some k, B1, ⟨v', xs', _, insK key x n L', ⟨e0, e1, ?_, ?_, (fr 1).trans g1, (fr 2).trans g2, (fr 3).trans g3, sv'.mv m2 (fun k hk e => nq' (e ▸ hk)), RF.mv m2 (fun k hk e => (hb1 k hk).2.1 e) _ _ rf', nq', fun k hk => (hb1 k hk).2, fun k hk => Nat.lt_of_lt_of_le (hb1 k hk).1 m2.size, xl, ((dx.cv k2 (fun j hj s => by omega) l1).cv k3 (fun j hj s => by omega) l2).cv k4 (fun j hj s => by omega) l3⟩, ?_, ?_, by rw [insA_len]; omega, by omega, fun _ => Iff.rfl⟩, ?_, ?_, grw⟩
    · rw [insA_len, hcn]; exact e2
    · exact e3
    · exact a2.push x
    · rw [insK_map, a3]
    · refine ((Mv.below hbA).trans (E' := fun k => nbk (.slice pv nv cv) = some k ∨ k = N) (fun k hk => ?_) mv).trans' (m2.mono fun k _ e => (a6 k).2 (.inl e))
      rcases hk with s | s
      · rw [← hv] at s; exact .inl ((a6 k).2 (.inr s))
      · exact .inr (by omega)
    · intro k hk
      rcases hk with s | s
      · exact .inl ((a6 k).2 (.inl s))
      · rcases atw with z | ⟨k', z, hk'⟩
        · exact .inl ((a6 k).2 (.inr (z ▸ s)))
        · rw [s] at z; injection z with z; exact .inr (by omega)
  have bw0H := hidP bw0
  clear bw0
  have hnI : (n : Int) < 200000 := by omega
  have hcI : (cn : Int) ≤ 200000 := by omega
  clear nvb bxc a1 a2 a3 a4 a5 a6 hmA hrA hm hB hv hnv hcn hbA
  unfold qp slv at *
  go_enter Tryz.func32, Tryz.ntmps32
  go_wp2_with (rw [hw0])
  refine Zs.region (S := fun W => W.cell? ⟨q, 1, none⟩ = some (.slice pv nv cv) ∧ W.cell? ⟨q, 3, none⟩ = some (.int .i64 n) ∧ (W.cell? ⟨bx, 0, none⟩ = some (vc0 x) ∧ W.cell? ⟨bx, 1, none⟩ = some (vc1 x) ∧ W.cell? ⟨bx, 2, none⟩ = some (vc2 x) ∧ W.cell? ⟨bx, 3, none⟩ = some (vc3 x) ∧ W.cell? ⟨bx, 4, none⟩ = some (vc4 x) ∧ W.cell? ⟨bx, 5, none⟩ = some (vc5 x))) 16 (by kernel_rfl) ?_
  refine Zs.pure (i := 0) (oi := ⟨some 4, _, _, _, _, _⟩) (v := ?v0) rfl (by kernel_rfl) (by kernel_rfl) (by kernel_rfl) (by decide) (fun _ _ _ h => h) (Or.inl ⟨by rfl, ?hy0⟩) hS ?_
  case hy0 => (intro w hSw; (try dsimp only at hSw); go_simp; try with_reducible rfl)
  simp only [Act.put, List.setIfInBounds_toArray, List.set_cons_zero, List.set_cons_succ]
  refine Zs.pure (i := 1) (oi := ⟨some 5, _, _, _, _, _⟩) (v := ?v1) rfl (by kernel_rfl) (by kernel_rfl) (by kernel_rfl) (by decide) (fun _ _ _ h => h) (Or.inl ⟨by rfl, ?hy1⟩) hS ?_
  case hy1 => (intro w hSw; (try dsimp only at hSw); go_simp; try with_reducible rfl)
  simp only [Act.put, List.setIfInBounds_toArray, List.set_cons_zero, List.set_cons_succ]
  refine Zs.pure (i := 2) (oi := ⟨some 6, _, _, _, _, _⟩) (v := ?v2) rfl (by kernel_rfl) (by kernel_rfl) (by kernel_rfl) (by decide) (fun _ _ _ h => h) (Or.inl ⟨by rfl, ?hy2⟩) hS ?_
  case hy2 => (intro w hSw; (try dsimp only at hSw); go_simp; try with_reducible rfl)
  simp only [Act.put, List.setIfInBounds_toArray, List.set_cons_zero, List.set_cons_succ]
  refine Zs.pure (i := 3) (oi := ⟨some 7, _, _, _, _, _⟩) (v := ?v3) rfl (by kernel_rfl) (by kernel_rfl) (by kernel_rfl) (by decide) (fun _ _ _ h => h) (Or.inl ⟨by rfl, ?hy3⟩) hS ?_
  case hy3 => (intro w hSw; (try dsimp only at hSw); go_simp; try with_reducible rfl)
  simp only [Act.put, List.setIfInBounds_toArray, List.set_cons_zero, List.set_cons_succ]
  refine Zs.pure (i := 4) (oi := ⟨some 8, _, _, _, _, _⟩) (v := ?v4) rfl (by kernel_rfl) (by kernel_rfl) (by kernel_rfl) (by decide) (fun _ _ _ h => h) (Or.inl ⟨by rfl, ?hy4⟩) hS ?_
  case hy4 => (intro w hSw; (try dsimp only at hSw); go_simp; try with_reducible rfl)
  simp only [Act.put, List.setIfInBounds_toArray, List.set_cons_zero, List.set_cons_succ]
  refine Zs.take (i := 5) (oi := ⟨some 9, _, _, _, _, _⟩) (v := .slice pv nv cv) rfl (by kernel_rfl) (by kernel_rfl) (by kernel_rfl) (by decide) (by kernel_rfl) (by kernel_rfl) (fun _ _ _ h => h) (Or.inl ⟨by rfl, ?hy5⟩) hS ?_
  case hy5 => (intro w hSw; (try dsimp only at hSw); go_simp; try with_reducible rfl)
  simp only [Act.put, List.setIfInBounds_toArray, List.set_cons_zero, List.set_cons_succ]
  refine Zs.take (i := 6) (oi := ⟨some 10, _, _, _, _, _⟩) (v := .agg #[vc0 x, vc1 x, vc2 x, vc3 x, vc4 x, vc5 x]) rfl (by kernel_rfl) (by kernel_rfl) (by kernel_rfl) (by decide) (by kernel_rfl) (by kernel_rfl) (fun _ _ _ h => h) (Or.inl ⟨by rfl, ?hy6⟩) hS ?_
  case hy6 => (intro w hSw; (try dsimp only at hSw); go_simp; try with_reducible rfl)
  simp only [Act.put, List.setIfInBounds_toArray, List.set_cons_zero, List.set_cons_succ]
  refine Zs.pure (i := 7) (oi := ⟨some 11, _, _, _, _, _⟩) (v := ?v7) rfl (by kernel_rfl) (by kernel_rfl) (by kernel_rfl) (by decide) (fun _ _ _ h => h) (Or.inl ⟨by rfl, ?hy7⟩) hS ?_
  case hy7 => (intro w hSw; (try dsimp only at hSw); go_simp; try with_reducible rfl)
  simp only [Act.put, List.setIfInBounds_toArray, List.set_cons_zero, List.set_cons_succ]
  refine Zs.pure (i := 8) (oi := ⟨some 12, _, _, _, _, _⟩) (v := ?v8) rfl (by kernel_rfl) (by kernel_rfl) (by kernel_rfl) (by decide) (fun _ _ _ h => h) (Or.inl ⟨by rfl, ?hy8⟩) hS ?_
  case hy8 => (intro w hSw; (try dsimp only at hSw); go_simp; try with_reducible rfl)
  simp only [Act.put, List.setIfInBounds_toArray, List.set_cons_zero, List.set_cons_succ]
  refine Zs.pure (i := 9) (oi := ⟨some 13, _, _, _, _, _⟩) (v := ?v9) rfl (by kernel_rfl) (by kernel_rfl) (by kernel_rfl) (by decide) (fun _ _ _ h => h) (Or.inl ⟨by rfl, ?hy9⟩) hS ?_
  case hy9 => (intro w hSw; (try dsimp only at hSw); go_simp; try with_reducible rfl)
  simp only [Act.put, List.setIfInBounds_toArray, List.set_cons_zero, List.set_cons_succ]
  refine Zs.take (i := 10) (oi := ⟨some 14, _, _, _, _, _⟩) (v := .int .i64 n) rfl (by kernel_rfl) (by kernel_rfl) (by kernel_rfl) (by decide) (by kernel_rfl) (by kernel_rfl) (fun _ _ _ h => h) (Or.inl ⟨by rfl, ?hy10⟩) hS ?_
  case hy10 => (intro w hSw; (try dsimp only at hSw); go_simp; try with_reducible rfl)
  simp only [Act.put, List.setIfInBounds_toArray, List.set_cons_zero, List.set_cons_succ]
  refine Zs.pure (i := 11) (oi := ⟨some 15, _, _, _, _, _⟩) (v := .agg #[vc0 x, vc1 x, vc2 x, vc3 x, vc4 x, vc5 x, .int .i64 n, .pointer none]) rfl (by kernel_rfl) (by kernel_rfl) (by kernel_rfl) (by decide) (fun _ _ _ h => h) (Or.inl ⟨by rfl, ?hy11⟩) hS ?_
  case hy11 => (intro w hSw; (try dsimp only at hSw); go_simp; try with_reducible rfl)
  simp only [Act.put, List.setIfInBounds_toArray, List.set_cons_zero, List.set_cons_succ]
  refine Zs.one (i := 12) (oi := ⟨some 16, _, _, _, _, _⟩) (by kernel_rfl) rfl (fun K hK => ?_)
  go_simp
  refine hK.out _ _ (fun _ => hS1) ?_
  clear hK K
  try simp only [Act.put, List.setIfInBounds_toArray, List.set_cons_zero, List.set_cons_succ]
  refine Zs.one (i := 13) (oi := ⟨some 17, _, _, _, _, _⟩) (by kernel_rfl) rfl (fun K hK => ?_)
  go_simp
  refine hJ.out.mono ?_
  rintro e V1 ⟨pv2, nv2, cv2, rfl, hS2, h2⟩
  have h2H := hidP h2
  clear h2 hJ
  go_wp2_with fail
  refine hK.out _ _ (fun _ => hS2) ?_
  clear hK K
  try simp only [Act.put, List.setIfInBounds_toArray, List.set_cons_zero, List.set_cons_succ]
  refine Zs.pure (i := 14) (oi := ⟨some 18, _, _, _, _, _⟩) (v := ?v14) rfl (by kernel_rfl) (by kernel_rfl) (by kernel_rfl) (by decide) (fun _ _ _ h => h) (Or.inl ⟨by rfl, ?hy14⟩) hS2 ?_
  case hy14 => (intro w hSw; (try dsimp only at hSw); go_simp; try with_reducible rfl)
  simp only [Act.put, List.setIfInBounds_toArray, List.set_cons_zero, List.set_cons_succ]
  refine Zs.pure (i := 15) (oi := ⟨some 19, _, _, _, _, _⟩) (v := ?v15) rfl (by kernel_rfl) (by kernel_rfl) (by kernel_rfl) (by decide) (fun _ _ _ h => h) (Or.inl ⟨by rfl, ?hy15⟩) hS2 ?_
  case hy15 => (intro w hSw; (try dsimp only at hSw); go_simp; try with_reducible rfl)
  simp only [Act.put, List.setIfInBounds_toArray, List.set_cons_zero, List.set_cons_succ]
  obtain ⟨hf1, V2, hV2, e2, e3, f2, f3, V3, hV3, e2', V4, hV4, fin⟩ := h2H.out
  have finH := hidP fin
  clear fin h2H
  have hc1 := hS2.1
  refine Zs.one (i := 16) (oi := ⟨none, _, _, _, _, _⟩) (by kernel_rfl) rfl (fun K hK => ?_)
  go_simp
  refine hK.out _ _ (fun q => absurd q (by decide)) ?_
  clear hK K
  refine Zs.done (by kernel_rfl) ?_ _
  clear hS hS1 hS2 hc1
  go_wp2_with (first | rw [hV3] | rw [hV4])
  go_end0
  obtain ⟨E', B', y1, y2, y3, y4⟩ := finH.out
  exact ⟨rfl, E', B', y1, (Mv.below bw0H.out).trans' y2, Gr.mono bw0H.out.size y3, Gr.mono bw0H.out.size y4⟩
end Go.Proofs.YtjcdjkfnmobhkaaGreat.Qw
