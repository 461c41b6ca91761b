import Derived.Test.YtjcdjkfnmobhkaaGreatQwPB
/- A box for a result of struct type. -/
namespace Go.Proofs.YtjcdjkfnmobhkaaGreat.Qw
open Go.RowKit Go.Shelf Go.Lib
/-- A box of zeros at b. -/
structure Bz (w : World) (b : Nat) : Prop where
  c : (w.cell? ⟨b, 0, none⟩ = some (.int .i64 0) ∧ w.cell? ⟨b, 1, none⟩ = some (.int .i64 0) ∧ w.cell? ⟨b, 2, none⟩ = some (.int .i64 0) ∧ w.cell? ⟨b, 3, none⟩ = some (.string ⟨#[]⟩) ∧ w.cell? ⟨b, 4, none⟩ = some (.string ⟨#[]⟩) ∧ w.cell? ⟨b, 5, none⟩ = some (.int .i64 0))
  f : (w.frozen? ⟨b, 0, none⟩ = false ∧ w.frozen? ⟨b, 1, none⟩ = false ∧ w.frozen? ⟨b, 2, none⟩ = false ∧ w.frozen? ⟨b, 3, none⟩ = false ∧ w.frozen? ⟨b, 4, none⟩ = false ∧ w.frozen? ⟨b, 5, none⟩ = false)
  lt : b < w.heap.size
theorem Bz.new (w : World) : Bz (w.alloc (.cells #[.int .i64 0, .int .i64 0, .int .i64 0, .string ⟨#[]⟩, .string ⟨#[]⟩, .int .i64 0] 77)) w.heap.size :=
  ⟨⟨cell_at rfl rfl, cell_at rfl rfl, cell_at rfl rfl, cell_at rfl rfl, cell_at rfl rfl, cell_at rfl rfl⟩, ⟨froz_new rfl, froz_new rfl, froz_new rfl, froz_new rfl, froz_new rfl, froz_new rfl⟩, by simp⟩
theorem Bz.mv {D : Nat → Prop} {w V : World} {b : Nat} (h : Bz w b) (m : Mv D w V) (hb : ¬ D b) : Bz V b :=
  ⟨⟨m.cell (a := ⟨b, 0, none⟩) hb h.c.1, m.cell (a := ⟨b, 1, none⟩) hb h.c.2.1, m.cell (a := ⟨b, 2, none⟩) hb h.c.2.2.1, m.cell (a := ⟨b, 3, none⟩) hb h.c.2.2.2.1, m.cell (a := ⟨b, 4, none⟩) hb h.c.2.2.2.2.1, m.cell (a := ⟨b, 5, none⟩) hb h.c.2.2.2.2.2⟩, ⟨(m.froz (a := ⟨b, 0, none⟩) hb h.lt).trans h.f.1, (m.froz (a := ⟨b, 1, none⟩) hb h.lt).trans h.f.2.1, (m.froz (a := ⟨b, 2, none⟩) hb h.lt).trans h.f.2.2.1, (m.froz (a := ⟨b, 3, none⟩) hb h.lt).trans h.f.2.2.2.1, (m.froz (a := ⟨b, 4, none⟩) hb h.lt).trans h.f.2.2.2.2.1, (m.froz (a := ⟨b, 5, none⟩) hb h.lt).trans h.f.2.2.2.2.2⟩, Nat.lt_of_lt_of_le h.lt m.size⟩
theorem Bz.put {w : World} {b : Nat} (h : Bz w b) (x : El) : ∃ V, ((((((w.setCell ⟨b, 0, none⟩ (vc0 x)).setCell ⟨b, 1, none⟩ (vc1 x)).setCell ⟨b, 2, none⟩ (vc2 x)).setCell ⟨b, 3, none⟩ (vc3 x)).setCell ⟨b, 4, none⟩ (vc4 x)).setCell ⟨b, 5, none⟩ (vc5 x)) = V ∧ (V.cell? ⟨b, 0, none⟩ = some (vc0 x) ∧ V.cell? ⟨b, 1, none⟩ = some (vc1 x) ∧ V.cell? ⟨b, 2, none⟩ = some (vc2 x) ∧ V.cell? ⟨b, 3, none⟩ = some (vc3 x) ∧ V.cell? ⟨b, 4, none⟩ = some (vc4 x) ∧ V.cell? ⟨b, 5, none⟩ = some (vc5 x)) ∧ Mv (fun k => k = b) w V := by
  refine ⟨_, rfl, ?_, ?_⟩
  · obtain ⟨hc, _, _⟩ := h
    exact ⟨((World.cell?_setCell_other _ _ _ _ (by simp)).trans ((World.cell?_setCell_other _ _ _ _ (by simp)).trans ((World.cell?_setCell_other _ _ _ _ (by simp)).trans ((World.cell?_setCell_other _ _ _ _ (by simp)).trans ((World.cell?_setCell_other _ _ _ _ (by simp)).trans (World.cell?_setCell_same _ _ _ (hc.1))))))), ((World.cell?_setCell_other _ _ _ _ (by simp)).trans ((World.cell?_setCell_other _ _ _ _ (by simp)).trans ((World.cell?_setCell_other _ _ _ _ (by simp)).trans ((World.cell?_setCell_other _ _ _ _ (by simp)).trans (World.cell?_setCell_same _ _ _ ((World.cell?_setCell_other _ _ _ _ (by simp)).trans (hc.2.1))))))), ((World.cell?_setCell_other _ _ _ _ (by simp)).trans ((World.cell?_setCell_other _ _ _ _ (by simp)).trans ((World.cell?_setCell_other _ _ _ _ (by simp)).trans (World.cell?_setCell_same _ _ _ ((World.cell?_setCell_other _ _ _ _ (by simp)).trans ((World.cell?_setCell_other _ _ _ _ (by simp)).trans (hc.2.2.1))))))), ((World.cell?_setCell_other _ _ _ _ (by simp)).trans ((World.cell?_setCell_other _ _ _ _ (by simp)).trans (World.cell?_setCell_same _ _ _ ((World.cell?_setCell_other _ _ _ _ (by simp)).trans ((World.cell?_setCell_other _ _ _ _ (by simp)).trans ((World.cell?_setCell_other _ _ _ _ (by simp)).trans (hc.2.2.2.1))))))), ((World.cell?_setCell_other _ _ _ _ (by simp)).trans (World.cell?_setCell_same _ _ _ ((World.cell?_setCell_other _ _ _ _ (by simp)).trans ((World.cell?_setCell_other _ _ _ _ (by simp)).trans ((World.cell?_setCell_other _ _ _ _ (by simp)).trans ((World.cell?_setCell_other _ _ _ _ (by simp)).trans (hc.2.2.2.2.1))))))), (World.cell?_setCell_same _ _ _ ((World.cell?_setCell_other _ _ _ _ (by simp)).trans ((World.cell?_setCell_other _ _ _ _ (by simp)).trans ((World.cell?_setCell_other _ _ _ _ (by simp)).trans ((World.cell?_setCell_other _ _ _ _ (by simp)).trans ((World.cell?_setCell_other _ _ _ _ (by simp)).trans (hc.2.2.2.2.2)))))))⟩
  · exact (Cv.cells w b 0 [vc0 x, vc1 x, vc2 x, vc3 x, vc4 x, vc5 x]).mv.mono fun k _ s => by obtain ⟨j, s, _⟩ := s; exact s
theorem Qg.box {nb : NB} {key : El → Int} {w w0 V V7 : World} {q : Nat} {E B : Nat → Prop} {L : List El} {n bx : Nat} (b : Below w.heap.size w w0) (hE : ∀ k, E k → k < w.heap.size) (hB : ∀ k, B k → k < w.heap.size) (hx : w.heap.size = bx) (lt : bx < w0.heap.size) (h : Qg nb key w0 q E B L n V) (m : Mv (fun k => k = bx) V V7) : Qg nb key w q E B L n V7 := by
  obtain ⟨E', B', y1, y2, y3, y4⟩ := h
  refine ⟨E', B', y1.mv m (fun k hk e => ?_) (fun k hk e => ?_), ?_, Gr.mono b.size y3, Gr.mono b.size y4⟩
  · rcases y3 k hk with z | z
    · have := hE k z; omega
    · omega
  · rcases y4 k hk with z | z
    · have := hB k z; omega
    · omega
  · exact ((Mv.below b).trans' y2).trans (E' := fun k => k = bx) (fun k e => .inr (by omega)) m
end Go.Proofs.YtjcdjkfnmobhkaaGreat.Qw
/- Peek and Pop. -/
namespace Go.Proofs.YtjcdjkfnmobhkaaGreat.Qw
open Go.RowKit Go.Shelf Go.Lib
attribute [local go_sem] Oper.semAt_some
set_option maxRecDepth 100000 in
set_option maxHeartbeats 1000000 in
theorem pop_none {nb : NB} {key : El → Int} {w : World} {q : Nat} {E B : Nat → Prop} {n : Nat} (h : Qu nb key w q E B [] n) :
    Calls Tryz.prog 33 #[qp q] w fun e V => e = .returned (.tuple #[.agg #[.int .i64 0, .int .i64 0, .int .i64 0, .string ⟨#[]⟩, .string ⟨#[]⟩, .int .i64 0], .int .i64 130]) ∧ Below w.heap.size w V := by
  obtain ⟨w0, hw0⟩ : ∃ w0, w.alloc (.cells #[.int .i64 0, .int .i64 0, .int .i64 0, .string ⟨#[]⟩, .string ⟨#[]⟩, .int .i64 0] 77) = w0 := ⟨_, rfl⟩
  have bw0 : Below w.heap.size w w0 := by rw [← hw0]; exact (Below.refl _ _).alloc (Nat.le_refl _) _
  have hz0 : Bz w0 w.heap.size := by rw [← hw0]; exact Bz.new w
  obtain ⟨bz, hbx⟩ : ∃ bz, w.heap.size = bz := ⟨_, rfl⟩
  obtain ⟨w5, hw5⟩ : ∃ w5, w0.alloc (.cells #[.int .i64 0, .int .i64 0, .int .i64 0, .string ⟨#[]⟩, .string ⟨#[]⟩, .int .i64 0] 77) = w5 := ⟨_, rfl⟩
  have bw5 : Below w0.heap.size w0 w5 := by rw [← hw5]; exact (Below.refl _ _).alloc (Nat.le_refl _) _
  have hz5 : Bz w5 w0.heap.size := by rw [← hw5]; exact Bz.new w0
  obtain ⟨b5, hb5⟩ : ∃ b5, w0.heap.size = b5 := ⟨_, rfl⟩
  rw [hbx] at hz0
  rw [hb5] at hz5
  have hz1 : Bz w5 bz := hz0.mv (D := fun _ => False) (Mv.below bw5) (fun h => h)
  have hfin : ∃ V, (((((((w5.setCell ⟨bz, 0, none⟩ (.int .i64 0)).setCell ⟨bz, 1, none⟩ (.int .i64 0)).setCell ⟨bz, 2, none⟩ (.int .i64 0)).setCell ⟨bz, 3, none⟩ (.string ⟨#[]⟩)).setCell ⟨bz, 4, none⟩ (.string ⟨#[]⟩)).setCell ⟨bz, 5, none⟩ (.int .i64 0))) = V ∧ (V.cell? ⟨bz, 0, none⟩ = some (.int .i64 0) ∧ V.cell? ⟨bz, 1, none⟩ = some (.int .i64 0) ∧ V.cell? ⟨bz, 2, none⟩ = some (.int .i64 0) ∧ V.cell? ⟨bz, 3, none⟩ = some (.string ⟨#[]⟩) ∧ V.cell? ⟨bz, 4, none⟩ = some (.string ⟨#[]⟩) ∧ V.cell? ⟨bz, 5, none⟩ = some (.int .i64 0)) ∧ Mv (fun k => k = bz) w5 V := hz1.put (Wt.zero)
  obtain ⟨w6, hw6, w6c, w6m⟩ := hfin
  have hlast : Below w.heap.size w w6 := bmv (bw0.trans (bw5.mono bw0.size)) (Nat.le_refl _) w6m (fun k e => by omega)
  obtain ⟨v, xs, F, L', a1, a2, a3, _⟩ := h.mv (D := fun _ => False) (Mv.below bw0) (fun _ _ h => h) (fun _ _ h => h)
  obtain ⟨z0c, z0f, z0l⟩ := hz0
  obtain ⟨z1c, z1f, z1l⟩ := hz1
  obtain ⟨z5c, _, _⟩ := hz5
  obtain rfl : L' = [] := List.map_eq_nil_iff.1 a3
  obtain rfl := a2.nilL
  obtain rfl : xs = [] := List.eq_nil_of_length_eq_zero a1.rf.len
  obtain ⟨pv, cv, hv⟩ := a1.sv.shape
  have c1 := a1.c1
  rw [hv] at c1
  have c1' : w0.cell? ⟨q, 1, none⟩ = some (.slice pv 0 cv) := c1
  clear a1 a2 a3 hv c1
  unfold qp
  go_enter Tryz.func33, Tryz.ntmps33
  go_wp2_with (first | rw [hw0] | rw [hw5] | rw [hw6])
  refine bodyPost_ret (v := .tuple #[.agg #[.int .i64 0, .int .i64 0, .int .i64 0, .string ⟨#[]⟩, .string ⟨#[]⟩, .int .i64 0], .int .i64 130]) (by simp [results, Tryz.results33, go_sem, w6c]) rfl ⟨rfl, hlast⟩
set_option maxRecDepth 100000 in
set_option maxHeartbeats 4000000 in
theorem pop_some {nb : NB} {key : El → Int} (hB : Bf nb key) {w : World} {q : Nat} {E B : Nat → Prop} {x : El} {L : List El} {n : Nat} (h : Qu nb key w q E B (x :: L) n) :
    Calls Tryz.prog 33 #[qp q] w fun e V => e = .returned (.tuple #[ev x, .int .i64 0]) ∧ Qg nb key w q E B L n V := by
  obtain ⟨w0, hw0⟩ : ∃ w0, w.alloc (.cells #[.int .i64 0, .int .i64 0, .int .i64 0, .string ⟨#[]⟩, .string ⟨#[]⟩, .int .i64 0] 77) = w0 := ⟨_, rfl⟩
  have bw0 : Below w.heap.size w w0 := by rw [← hw0]; exact (Below.refl _ _).alloc (Nat.le_refl _) _
  have hz0 : Bz w0 w.heap.size := by rw [← hw0]; exact Bz.new w
  obtain ⟨bz, hbx⟩ : ∃ bz, w.heap.size = bz := ⟨_, rfl⟩
  rw [hbx] at hz0
  have hlt := Qu.lt h
  have hbox : Hid (∀ V V7, Qg nb key w0 q E B L n V → Mv (fun k => k = bz) V V7 → Qg nb key w q E B L n V7) := hidP (fun V V7 g m => Qg.box bw0 hlt.1 hlt.2 hbx hz0.lt g m)
  obtain ⟨v, xs, F, L', a1, a2, a3, a4, a5, a6⟩ := h.mv (D := fun _ => False) (Mv.below bw0) (fun _ _ h => h) (fun _ _ h => h)
  cases F with
  | nil =>
    have := a2.empty
    rw [this] at a3; cases a3
  | cons y F =>
    obtain ⟨L2, rfl, hpm⟩ := a2.head
    injection a3 with ex eL
    have ex' : y.v = x := ex
    obtain ⟨g, o, c, rfl, hrs⟩ := a1.slice (by simp)
    cases xs with
    | nil => exact a1.rf.elim
    | cons r xs =>
      obtain ⟨⟨r1, r2, r3⟩, rf⟩ := a1.rf
      have hrx : r.v = x := r1.trans ex'
      obtain ⟨cn, hcn⟩ : ∃ cn, L.length = cn := ⟨_, rfl⟩
      obtain ⟨nx, hnx⟩ : ∃ nx, xs.length = nx := ⟨_, rfl⟩
      obtain ⟨N, hN⟩ : ∃ N, w0.heap.size = N := ⟨_, rfl⟩
      obtain ⟨w1, hw1⟩ : ∃ w1, w0.alloc (.cells #[vc0 r.v, vc1 r.v, vc2 r.v, vc3 r.v, vc4 r.v, vc5 r.v, .int .i64 r.t, ptrV r.p] 104) = w1 := ⟨_, rfl⟩
      obtain ⟨w2, hw2⟩ : ∃ w2, (((((((w1.setCell ⟨g, o, none⟩ (.int .i64 0)).setCell ⟨g, o + 1, none⟩ (.int .i64 0)).setCell ⟨g, o + 2, none⟩ (.int .i64 0)).setCell ⟨g, o + 3, none⟩ (.string ⟨#[]⟩)).setCell ⟨g, o + 4, none⟩ (.string ⟨#[]⟩)).setCell ⟨g, o + 5, none⟩ (.int .i64 0)).setCell ⟨g, o + 6, none⟩ (.int .i64 0)).setCell ⟨g, o + 7, none⟩ (.pointer none) = w2 := ⟨_, rfl⟩
      obtain ⟨o', ho'⟩ : ∃ o', (if c = 1 then o else o + 8) = o' := ⟨_, rfl⟩
      obtain ⟨w3, hw3⟩ : ∃ w3, w2.setCell ⟨q, 1, none⟩ (slv g o' nx (c - 1)) = w3 := ⟨_, rfl⟩
      obtain ⟨w4, hw4⟩ : ∃ w4, w3.setCell ⟨q, 2, none⟩ (.int .i64 cn) = w4 := ⟨_, rfl⟩
      have b1 : Below w0.heap.size w0 w1 := by rw [← hw1]; exact (Below.refl _ _).alloc (Nat.le_refl _) _
      have q1 := a1.below b1
      have k2 : Cv (fun k j => k = g ∧ o ≤ j ∧ j < o + 8) w1 w2 := by
        have := Cv.cells w1 g o [.int .i64 0, .int .i64 0, .int .i64 0, .string ⟨#[]⟩, .string ⟨#[]⟩, .int .i64 0, .int .i64 0, .pointer none]
        rw [← hw2]; exact this
      have k3 : Cv (fun k j => k = q ∧ j = 1) w2 w3 := by rw [← hw3]; exact Cv.one _ _ _ _
      have k4 : Cv (fun k j => k = q ∧ j = 2) w3 w4 := by rw [← hw4]; exact Cv.one _ _ _ _
      have nqg : q ≠ g := fun e => a1.nq (by rw [e]; rfl)
      have bx : ∀ j u, #[vc0 r.v, vc1 r.v, vc2 r.v, vc3 r.v, vc4 r.v, vc5 r.v, .int .i64 r.t, ptrV r.p][j]? = some u → w1.cell? ⟨N, j, none⟩ = some u := fun j u hj => by rw [← hw1]; exact cell_at hN hj
      have lq : q < N := by rw [← hN]; exact a1.lt
      have lg : g < N := by rw [← hN]; exact hrs.rm.lt
      have d0 := k4.cell (k := q) (j := 0) (by omega) (k3.cell (k := q) (j := 0) (by omega) (k2.cell (fun s => nqg s.1) q1.c0))
      have d1 := k2.cell (fun s => nqg s.1) q1.c1
      have d2 := k3.cell (k := q) (j := 2) (by omega) (k2.cell (fun s => nqg s.1) q1.c2)
      have d3 := k4.cell (k := q) (j := 3) (by omega) (k3.cell (k := q) (j := 3) (by omega) (k2.cell (fun s => nqg s.1) q1.c3))
      have e1 : w4.cell? ⟨q, 1, none⟩ = some (slv g o' nx (c - 1)) := k4.cell (k := q) (j := 1) (by omega) (by rw [← hw3]; exact World.cell?_setCell_same _ _ _ d1)
      have e2 : w4.cell? ⟨q, 2, none⟩ = some (.int .i64 cn) := by rw [← hw4]; exact World.cell?_setCell_same _ _ _ d2
      have l1 := q1.lt
      have l2 : q < w2.heap.size := Nat.lt_of_lt_of_le l1 k2.size
      have l3 : q < w3.heap.size := Nat.lt_of_lt_of_le l2 k3.size
      have fr : ∀ j, w4.frozen? ⟨q, j, none⟩ = w1.frozen? ⟨q, j, none⟩ := fun j => ((k4.fr q j l3).trans (k3.fr q j l2)).trans (k2.fr q j l1)
      have mq : Mv (fun k => k = q) w2 w4 := (k3.mv.mono fun k _ s => by obtain ⟨j, s, _⟩ := s; exact s).trans' (k4.mv.mono fun k _ s => by obtain ⟨j, s, _⟩ := s; exact s)
      have mg : Mv (fun k => k = g) w1 w2 := k2.mv.mono fun k _ s => by obtain ⟨j, s, _⟩ := s; exact s
      have m14 : Mv (fun k => k = g ∨ k = q) w1 w4 := (mg.mono fun k _ e => .inl e).trans' (mq.mono fun k _ e => .inr e)
      have mw4 : Mv (fun k => k = g ∨ k = q) w0 w4 := (Mv.below b1).trans' m14
      have nBe : ∀ k, B k → ¬ (k = g ∨ k = q) := fun k hk e => e.elim (fun e => (a1.nB k hk).2 (by rw [e]; rfl)) (a1.nB k hk).1
      have hrs1 := hrs.cv (S := fun _ _ => False) (Cv.below b1) (fun _ _ _ h => h)
      have hlen1 := hrs.le
      rw [List.length_cons, hnx] at hlen1
      have sv4 : SV w4 (slv g o' nx (c - 1)) xs := by
        refine .inr ⟨g, o', c - 1, by rw [hnx], ?_⟩
        have r2 : RS w2 g o' (c - 1) xs := by
          by_cases hc : c = 1
          · rw [if_pos hc] at ho'
            subst ho'
            have : xs = [] := List.eq_nil_of_length_eq_zero (by omega)
            subst this
            refine ⟨by simp, ⟨Nat.lt_of_lt_of_le hrs1.rm.lt k2.size, by unfold maxLen; omega, fun j hj => by omega, fun j hj => by omega⟩, RA.nil _ _ _⟩
          · rw [if_neg hc] at ho'
            subst ho'
            have ra := (RA.app (xs := [r]) (ys := xs)).1 hrs1.ra
            have r1 : RS w1 g (o + 8) (c - 1) xs := ⟨by omega, hrs1.rm.sub (a := 1) (by omega), ra.2⟩
            exact r1.cv k2 (fun j h1 h2 s => by have := s.2.2; omega)
        have := (SV.mv (v := slv g o' xs.length (c - 1)) (.inr ⟨g, o', c - 1, rfl, r2⟩) mq (fun k hk e => nqg (by injection hk with hk; have hk' : g = k := hk; omega)))
        rcases this with ⟨z, _⟩ | ⟨g2, o2, c2, z, hz⟩
        · cases z
        · injection z with z1 z2 z3
          injection z1 with z1
          injection z1 with z4 z5
          subst z4; subst z5; subst z3
          exact hz
      have Q4 : Qm nb w4 q B (slv g o' nx (c - 1)) xs F L.length n := ⟨d0, e1, by rw [hcn]; exact e2, d3, (fr 1).trans q1.f1, (fr 2).trans q1.f2, (fr 3).trans q1.f3, sv4, RF.mv mw4 nBe _ _ rf, a1.nq, a1.nB, fun k hk => Nat.lt_of_lt_of_le (a1.lo k hk) mw4.size, by have := a1.len; rw [List.length_cons] at this; omega, ((q1.xt.cv k2 (fun j hj s => nqg s.1) l1).cv k3 (fun j hj s => by omega) l2).cv k4 (fun j hj s => by omega) l3⟩
      obtain ⟨ts, hlc, hrt⟩ := LR.chain _ _ (LR.mv mw4 nBe _ _ r3)
      obtain ⟨m, hm⟩ := a2.fl
      obtain ⟨hy1, hy2⟩ := hm y (List.mem_cons_self ..)
      have hup := Fo.Up.toL _ hy2
      have hl2 : L2.length = L.length := by rw [← eL]; simp
      have htl : ts.length ≤ 200000 := by
        rw [hrt.len]
        have z1 := elsL_len y.k.toL
        rw [elsL_toL] at z1
        have z2 := hpm.length_eq
        rw [List.length_append] at z2
        rw [List.length_cons] at a4
        omega
      have hs4 : N + 1 ≤ w4.heap.size := by have := m14.size; have : w1.heap.size = N + 1 := by rw [← hw1]; simp [hN]
                                            omega
      have bxN : ∀ j u, #[vc0 r.v, vc1 r.v, vc2 r.v, vc3 r.v, vc4 r.v, vc5 r.v, .int .i64 r.t, ptrV r.p][j]? = some u → w4.cell? ⟨N, j, none⟩ = some u := fun j u hj => m14.cell (a := ⟨N, j, none⟩) (fun e => by have e' : N = g ∨ N = q := e; omega) (bx j u hj)
      have lbx : bz < N := by rw [← hN]; exact hz0.lt
      have qbx : q < bz := by rw [← hbx]; exact hlt.1 q ((a6 q).2 (.inl rfl))
      have gbx : g < bz := by rw [← hbx]; exact hlt.1 g ((a6 g).2 (.inr rfl))
      have hz4 : Bz w4 bz := hz0.mv mw4 (fun e => by have e' : bz = g ∨ bz = q := e; omega)
      have hT := trees_any ts r.p B w4 hlc Q4.lo (by omega)
      have hTF : Hid (Calls Tryz.prog 51 #[ptrV r.p] w4 fun e V5 => ∃ pt nt ct, e = .returned (.slice pt nt ct) ∧ Calls Tryz.prog 50 #[qp q, .slice pt nt ct] V5 fun e V6 => e = .returned (.tuple #[]) ∧ (V6.cell? ⟨N, 0, none⟩ = some (vc0 r.v) ∧ V6.cell? ⟨N, 1, none⟩ = some (vc1 r.v) ∧ V6.cell? ⟨N, 2, none⟩ = some (vc2 r.v) ∧ V6.cell? ⟨N, 3, none⟩ = some (vc3 r.v) ∧ V6.cell? ⟨N, 4, none⟩ = some (vc4 r.v) ∧ V6.cell? ⟨N, 5, none⟩ = some (vc5 r.v)) ∧ Bz V6 bz ∧ Qg nb key w0 q E B L n V6) := by
        refine hT.mono ?_
        rintro e V5 ⟨tv, rfl, svt, hb5, hfr⟩
        obtain ⟨pt, ct, htv⟩ := svt.shape
        refine ⟨pt, ts.length, ct, by rw [htv], ?_⟩
        rw [← htv]
        have s5 := hb5.size
        have cfr := free_any hB (Q4.below hb5) (m := m) (T := y.k.toL) (hm.sub fun z hz => List.mem_cons_of_mem _ hz) (fun z hz => .inl (hup z hz).1) (fun z hz => (hup z hz).2) svt (RF.mv (E := fun _ => False) (Mv.below hb5) (fun _ _ h => h) _ _ hrt) (by omega) (fun e => by have := hfr q e; have := Q4.lt; omega) (fun k hk => ⟨fun e => by have := hfr k hk; have := Q4.sv.lt e; omega, fun hk' => by have := hfr k hk; have := Q4.lo k hk'; omega⟩)
        refine cfr.mono ?_
        rintro e V6 ⟨rfl, F', ⟨v', xs', B', Q6, m6, g6, at6⟩, hF'⟩
        have hQI : QI key F' L2 n := by
          rcases hF' with ⟨hne, rfl⟩ | ⟨rfl, fp, fs⟩
          · obtain ⟨L3, z, hz⟩ := a2.pop hne
            injection z with _ z
            subst z
            exact hz
          · obtain ⟨m2, h2⟩ := leastL_fl key y.k.toL.length y.k.toL (by omega) (fun z hz => (hup z hz).2)
            have hp2 : (elsL F').Perm L2 := by
              refine (elsL_perm fp).trans ((leastL_els _ _ _).trans ?_)
              rw [elsL_toL]
              rw [elsL_nil, List.append_nil] at hpm
              exact hpm
            have hst := strict_of hp2 (List.pairwise_cons.1 a2.so).2 (h2.sub fun z hz => fp.mem_iff.1 hz) fs
            obtain ⟨L3, z, hz⟩ := a2.pop1 (N := y.k.toL.length) (by omega) fp hst
            injection z with _ z
            subst z
            exact hz
        have nN : ¬ (N = q ∨ nbk (slv g o' nx (c - 1)) = some N ∨ nbk tv = some N) := by
          rintro (e | e | e)
          · omega
          · injection e with e; have e' : g = N := e; omega
          · have := hfr N e; omega
        have nX : ¬ (bz = q ∨ nbk (slv g o' nx (c - 1)) = some bz ∨ nbk tv = some bz) := by
          rintro (e | e | e)
          · omega
          · injection e with e; have e' : g = bz := e; omega
          · have := hfr bz e; omega
        have Eq : ∀ k, k = q ∨ k = g → E k := fun k hk => (a6 k).2 (hk.imp id (fun e => by rw [e]; rfl))
        refine ⟨rfl, ⟨m6.cell (a := ⟨N, 0, none⟩) nN (bcell hb5 (by omega) (bxN 0 _ rfl)), m6.cell (a := ⟨N, 1, none⟩) nN (bcell hb5 (by omega) (bxN 1 _ rfl)), m6.cell (a := ⟨N, 2, none⟩) nN (bcell hb5 (by omega) (bxN 2 _ rfl)), m6.cell (a := ⟨N, 3, none⟩) nN (bcell hb5 (by omega) (bxN 3 _ rfl)), m6.cell (a := ⟨N, 4, none⟩) nN (bcell hb5 (by omega) (bxN 4 _ rfl)), m6.cell (a := ⟨N, 5, none⟩) nN (bcell hb5 (by omega) (bxN 5 _ rfl))⟩, (hz4.mv (D := fun _ => False) (Mv.below hb5) (fun h => h)).mv m6 nX, fun k => k = q ∨ nbk v' = some k, B', ⟨v', xs', F', L2, Q6, hQI, eL, by rw [List.length_cons] at a4; omega, a5, fun _ => Iff.rfl⟩, ?_, ?_, fun k hk => (g6 k hk).imp id (fun s => by have := mw4.size; omega)⟩
        · refine ((mw4.mono fun k _ e => Eq k e.symm).trans' (Mv.below hb5)).trans (E' := fun k => k = q ∨ nbk (slv g o' nx (c - 1)) = some k ∨ nbk tv = some k) (fun k hk => ?_) m6
          rcases hk with e | e | e
          · exact .inl (Eq k (.inl e))
          · injection e with e; exact .inl (Eq k (.inr e.symm))
          · exact .inr (by have := hfr k e; have := mw4.size; omega)
        · intro k hk
          rcases hk with e | e
          · exact .inl (Eq k (.inl e))
          · rcases at6 with z | ⟨k', z, hk'⟩
            · rw [e] at z; injection z with z; exact .inl (Eq k (.inr z))
            · rw [e] at z; injection z with z; exact .inr (by have := mw4.size; omega)
      rw [hrx] at hTF bx bxN hw1
      have y2 := bxN 7 _ rfl
      have u0 := (hrs.ra.at (j := 0) rfl)
      rw [show o + 0 * 8 = o by omega, hrx] at u0
      obtain ⟨u0, u1, u2⟩ := u0
      have v0 := (hrs1.ra.at (j := 0) rfl)
      rw [show o + 0 * 8 = o by omega, hrx] at v0
      obtain ⟨v0, v1, v2⟩ := v0
      have z0 := hrs1.rm.fz 0 (by omega)
      have z1 := hrs1.rm.fz 1 (by omega)
      have z2 := hrs1.rm.fz 2 (by omega)
      have z3 := hrs1.rm.fz 3 (by omega)
      have z4 := hrs1.rm.fz 4 (by omega)
      have z5 := hrs1.rm.fz 5 (by omega)
      have z6 := hrs1.rm.fz 6 (by omega)
      have z7 := hrs1.rm.fz 7 (by omega)
      rw [Nat.add_zero] at z0
      have qc := a1.c1
      have qc1 := q1.c1
      rw [List.length_cons, hnx] at qc qc1 d1
      have qd2 : w3.cell? ⟨q, 2, none⟩ = some (.int .i64 ((cn : Int) + 1)) := by rw [d2, List.length_cons, hcn]; rfl
      have qf1 := (k2.fr q 1 l1).trans q1.f1
      have qf2 := ((k3.fr q 2 l2).trans (k2.fr q 2 l1)).trans q1.f2
      have hcI : (cn : Int) ≤ 200000 := by rw [List.length_cons] at a4; omega
      have hxI : (nx : Int) + 1 ≤ 300000 := by have := a1.len; rw [List.length_cons] at this; omega
      have hc0 : ¬ c = 0 := by omega
      have hcl : nx + 1 ≤ c := hlen1
      obtain ⟨nn, hnn⟩ : ∃ nn, nx + 1 = nn := ⟨_, rfl⟩
      rw [hnn] at qc qc1 d1 hcl
      have hn1 : nn - 1 = nx := by omega
      have hn2 : 1 ≤ nn := by omega
      have hn3 : ¬ nn = 0 := by omega
      have hn4 : ((nn : Int) == 0) = false := by simp; omega
      have hn5 : (0 : Int) < (nn : Int) := by omega
      have hn6 : (nn : Int) ≤ 300000 := by omega
      have hc3 : 1 ≤ c := by omega
      unfold slv at qc qc1 d1 hw3
      clear hnn hxI
      obtain ⟨rt, hrt'⟩ : ∃ rt, r.t = rt := ⟨_, rfl⟩
      obtain ⟨rp, hrp'⟩ : ∃ rp, r.p = rp := ⟨_, rfl⟩
      rw [hrt'] at hw1 u1 v1 bx bxN
      rw [hrp'] at hw1 u2 v2 bx bxN hTF y2
      have hNH := hidP hN
      clear hlt hz4 hz0 lbx qbx gbx bw0 a1 a2 a4 a5 a6 hpm ex eL ex' rf hrs hrs1 r1 r2 r3 hrx b1 q1 k2 k3 k4 bx d0 d2 d3 e1 e2 l1 l2 l3 fr mq mg m14 mw4 nBe sv4 Q4 hlc hrt hm hy1 hy2 hup hl2 htl hs4 bxN hT hB hcn hnx hlen1 hrt' hrp' lq lg
      by_cases hc1 : c = 1
      · rw [if_pos hc1] at ho'
        subst ho'
        subst hc1
        unfold qp at *
        go_enter Tryz.func33, Tryz.ntmps33
        go_wp2_with (first | rw [hw0] | rw [hw1] | rw [hw2] | rw [hw3] | rw [hw4])
        refine hTF.out.mono ?_
        rintro e V5 ⟨pt, nt, ct, rfl, hF⟩
        have hFH := hidP hF
        clear hF hTF y2 u0 u1 u2 v0 v1 v2 z0 z1 z2 z3 z4 z5 z6 z7 qc qc1 d1 qd2 qf1 qf2
        go_wp2_with fail
        refine hFH.out.mono ?_
        rintro e V6 ⟨rfl, y6, hz6, hg⟩
        obtain ⟨V7, hw7, c7, m7⟩ := hz6.put x
        have hgH := hidP (hbox.out V6 V7 hg m7)
        obtain ⟨z6c, z6f, _⟩ := hz6
        clear hg hFH hbox m7
        go_wp2_with (rw [hw7])
        refine bodyPost_ret (v := .tuple #[ev x, .int .i64 0]) (by simp [results, Tryz.results33, go_sem, c7]) rfl ⟨rfl, hgH.out⟩
      · rw [if_neg hc1] at ho'
        subst ho'
        unfold qp at *
        go_enter Tryz.func33, Tryz.ntmps33
        go_wp2_with (first | rw [hw0] | rw [hw1] | rw [hw2] | rw [hw3] | rw [hw4])
        refine hTF.out.mono ?_
        rintro e V5 ⟨pt, nt, ct, rfl, hF⟩
        have hFH := hidP hF
        clear hF hTF y2 u0 u1 u2 v0 v1 v2 z0 z1 z2 z3 z4 z5 z6 z7 qc qc1 d1 qd2 qf1 qf2
        go_wp2_with fail
        refine hFH.out.mono ?_
        rintro e V6 ⟨rfl, y6, hz6, hg⟩
        obtain ⟨V7, hw7, c7, m7⟩ := hz6.put x
        have hgH := hidP (hbox.out V6 V7 hg m7)
        obtain ⟨z6c, z6f, _⟩ := hz6
        clear hg hFH hbox m7
        go_wp2_with (rw [hw7])
        refine bodyPost_ret (v := .tuple #[ev x, .int .i64 0]) (by simp [results, Tryz.results33, go_sem, c7]) rfl ⟨rfl, hgH.out⟩
end Go.Proofs.YtjcdjkfnmobhkaaGreat.Qw
