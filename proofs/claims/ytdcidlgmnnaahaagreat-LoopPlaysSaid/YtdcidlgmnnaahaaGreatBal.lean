import Derived.Test.YtdcidlgmnnaahaaGreatBak
import Derived.Deep.LoopGhost
/- Peek and Pop. -/
namespace Go.Proofs.YtdcidlgmnnaahaaGreat.Qw
open Go.RowKit Go.Shelf Go.Lib
attribute [local go_sem] Oper.semAt_some
set_option maxRecDepth 100000 in
set_option maxHeartbeats 1000000 in
theorem pop_none {nb : NB} {key : El → Int} {w : World} {q : Nat} {E B : Nat → Prop} {n : Nat} (h : Qu nb key w q E B [] n) :
    Calls Tryz.prog 28 #[qp q] w fun e V => e = .returned (.tuple #[.agg #[.int .i64 0, .int .i64 0, .int .i64 0, .string ⟨#[]⟩, .string ⟨#[]⟩, .int .i64 0], .int .i64 130]) ∧ Below w.heap.size w V := by
  obtain ⟨w0, hw0⟩ : ∃ w0, w.alloc (.cells #[.int .i64 0, .int .i64 0, .int .i64 0, .string ⟨#[]⟩, .string ⟨#[]⟩, .int .i64 0] 61) = w0 := ⟨_, rfl⟩
  have bw0 : Below w.heap.size w w0 := by rw [← hw0]; exact (Below.refl _ _).alloc (Nat.le_refl _) _
  have hz0 : Bz w0 w.heap.size := by rw [← hw0]; exact Bz.new w
  obtain ⟨bz, hbx⟩ : ∃ bz, w.heap.size = bz := ⟨_, rfl⟩
  obtain ⟨w5, hw5⟩ : ∃ w5, w0.alloc (.cells #[.int .i64 0, .int .i64 0, .int .i64 0, .string ⟨#[]⟩, .string ⟨#[]⟩, .int .i64 0] 61) = w5 := ⟨_, rfl⟩
  have bw5 : Below w0.heap.size w0 w5 := by rw [← hw5]; exact (Below.refl _ _).alloc (Nat.le_refl _) _
  have hz5 : Bz w5 w0.heap.size := by rw [← hw5]; exact Bz.new w0
  obtain ⟨b5, hb5⟩ : ∃ b5, w0.heap.size = b5 := ⟨_, rfl⟩
  rw [hbx] at hz0
  rw [hb5] at hz5
  have hz1 : Bz w5 bz := hz0.mv (D := fun _ => False) (Mv.below bw5) (fun h => h)
  have hfin : ∃ V, (((((((w5.setCell ⟨bz, 0, none⟩ (.int .i64 0)).setCell ⟨bz, 1, none⟩ (.int .i64 0)).setCell ⟨bz, 2, none⟩ (.int .i64 0)).setCell ⟨bz, 3, none⟩ (.string ⟨#[]⟩)).setCell ⟨bz, 4, none⟩ (.string ⟨#[]⟩)).setCell ⟨bz, 5, none⟩ (.int .i64 0))) = V ∧ (V.cell? ⟨bz, 0, none⟩ = some (.int .i64 0) ∧ V.cell? ⟨bz, 1, none⟩ = some (.int .i64 0) ∧ V.cell? ⟨bz, 2, none⟩ = some (.int .i64 0) ∧ V.cell? ⟨bz, 3, none⟩ = some (.string ⟨#[]⟩) ∧ V.cell? ⟨bz, 4, none⟩ = some (.string ⟨#[]⟩) ∧ V.cell? ⟨bz, 5, none⟩ = some (.int .i64 0)) ∧ Mv (fun k => k = bz) w5 V := hz1.put (Wt.zero)
  obtain ⟨w6, hw6, w6c, w6m⟩ := hfin
  have hlast : Below w.heap.size w w6 := bmv (bw0.trans (bw5.mono bw0.size)) (Nat.le_refl _) w6m (fun k e => by omega)
  obtain ⟨v, xs, F, L', a1, a2, a3, _⟩ := h.mv (D := fun _ => False) (Mv.below bw0) (fun _ _ h => h) (fun _ _ h => h)
  obtain ⟨z0c, z0f, z0l⟩ := hz0
  obtain ⟨z1c, z1f, z1l⟩ := hz1
  obtain ⟨z5c, _, _⟩ := hz5
  obtain rfl : L' = [] := List.map_eq_nil_iff.1 a3
  obtain rfl := a2.nilL
  obtain rfl : xs = [] := List.eq_nil_of_length_eq_zero a1.rf.len
  obtain ⟨pv, cv, hv⟩ := a1.sv.shape
  have c1 := a1.c1
  rw [hv] at c1
  have c1' : w0.cell? ⟨q, 1, none⟩ = some (.slice pv 0 cv) := c1
  clear a1 a2 a3 hv c1
  unfold qp
  go_enter Tryz.func28, Tryz.ntmps28
  go_wp2_with (first | rw [hw0] | rw [hw5] | rw [hw6])
  refine bodyPost_ret (v := .tuple #[.agg #[.int .i64 0, .int .i64 0, .int .i64 0, .string ⟨#[]⟩, .string ⟨#[]⟩, .int .i64 0], .int .i64 130]) (by simp [results, Tryz.results28, go_sem, w6c]) rfl ⟨rfl, hlast⟩
set_option maxRecDepth 100000 in
set_option maxHeartbeats 4000000 in
theorem pop_some {nb : NB} {key : El → Int} (hB : Bf nb key) {w : World} {q : Nat} {E B : Nat → Prop} {x : El} {L : List El} {n : Nat} (h : Qu nb key w q E B (x :: L) n) :
    Calls Tryz.prog 28 #[qp q] w fun e V => e = .returned (.tuple #[ev x, .int .i64 0]) ∧ Qg nb key w q E B L n V := by
  obtain ⟨w0, hw0⟩ : ∃ w0, w.alloc (.cells #[.int .i64 0, .int .i64 0, .int .i64 0, .string ⟨#[]⟩, .string ⟨#[]⟩, .int .i64 0] 61) = w0 := ⟨_, rfl⟩
  have bw0 : Below w.heap.size w w0 := by rw [← hw0]; exact (Below.refl _ _).alloc (Nat.le_refl _) _
  have hz0 : Bz w0 w.heap.size := by rw [← hw0]; exact Bz.new w
  obtain ⟨bz, hbx⟩ : ∃ bz, w.heap.size = bz := ⟨_, rfl⟩
  rw [hbx] at hz0
  have hlt := Qu.lt h
  have hbox : Hid (∀ V V7, Qg nb key w0 q E B L n V → Mv (fun k => k = bz) V V7 → Qg nb key w q E B L n V7) := hidP (fun V V7 g m => Qg.box bw0 hlt.1 hlt.2 hbx hz0.lt g m)
  obtain ⟨v, xs, F, L', a1, a2, a3, a4, a5, a6⟩ := h.mv (D := fun _ => False) (Mv.below bw0) (fun _ _ h => h) (fun _ _ h => h)
  cases F with
  | nil =>
    have := a2.empty
    rw [this] at a3; cases a3
  | cons y F =>
    obtain ⟨L2, rfl, hpm⟩ := a2.head
    injection a3 with ex eL
    have ex' : y.v = x := ex
    obtain ⟨g, o, c, rfl, hrs⟩ := a1.slice (by simp)
    cases xs with
    | nil => exact a1.rf.elim
    | cons r xs =>
      obtain ⟨⟨r1, r2, r3⟩, rf⟩ := a1.rf
      have hrx : r.v = x := r1.trans ex'
      obtain ⟨cn, hcn⟩ : ∃ cn, L.length = cn := ⟨_, rfl⟩
      obtain ⟨nx, hnx⟩ : ∃ nx, xs.length = nx := ⟨_, rfl⟩
      obtain ⟨N, hN⟩ : ∃ N, w0.heap.size = N := ⟨_, rfl⟩
      obtain ⟨w1, hw1⟩ : ∃ w1, w0.alloc (.cells #[vc0 r.v, vc1 r.v, vc2 r.v, vc3 r.v, vc4 r.v, vc5 r.v, .int .i64 r.t, ptrV r.p] 94) = w1 := ⟨_, rfl⟩
      obtain ⟨w2, hw2⟩ : ∃ w2, (((((((w1.setCell ⟨g, o, none⟩ (.int .i64 0)).setCell ⟨g, o + 1, none⟩ (.int .i64 0)).setCell ⟨g, o + 2, none⟩ (.int .i64 0)).setCell ⟨g, o + 3, none⟩ (.string ⟨#[]⟩)).setCell ⟨g, o + 4, none⟩ (.string ⟨#[]⟩)).setCell ⟨g, o + 5, none⟩ (.int .i64 0)).setCell ⟨g, o + 6, none⟩ (.int .i64 0)).setCell ⟨g, o + 7, none⟩ (.pointer none) = w2 := ⟨_, rfl⟩
      obtain ⟨o', ho'⟩ : ∃ o', (if c = 1 then o else o + 8) = o' := ⟨_, rfl⟩
      obtain ⟨w3, hw3⟩ : ∃ w3, w2.setCell ⟨q, 1, none⟩ (slv g o' nx (c - 1)) = w3 := ⟨_, rfl⟩
      obtain ⟨w4, hw4⟩ : ∃ w4, w3.setCell ⟨q, 2, none⟩ (.int .i64 cn) = w4 := ⟨_, rfl⟩
      have b1 : Below w0.heap.size w0 w1 := by rw [← hw1]; exact (Below.refl _ _).alloc (Nat.le_refl _) _
      have q1 := a1.below b1
      have k2 : Cv (fun k j => k = g ∧ o ≤ j ∧ j < o + 8) w1 w2 := by
        have := Cv.cells w1 g o [.int .i64 0, .int .i64 0, .int .i64 0, .string ⟨#[]⟩, .string ⟨#[]⟩, .int .i64 0, .int .i64 0, .pointer none]
        rw [← hw2]; exact this
      have k3 : Cv (fun k j => k = q ∧ j = 1) w2 w3 := by rw [← hw3]; exact Cv.one _ _ _ _
      have k4 : Cv (fun k j => k = q ∧ j = 2) w3 w4 := by rw [← hw4]; exact Cv.one _ _ _ _
      have nqg : q ≠ g := fun e => a1.nq (by rw [e]; rfl)
      have bx : ∀ j u, #[vc0 r.v, vc1 r.v, vc2 r.v, vc3 r.v, vc4 r.v, vc5 r.v, .int .i64 r.t, ptrV r.p][j]? = some u → w1.cell? ⟨N, j, none⟩ = some u := fun j u hj => by rw [← hw1]; exact cell_at hN hj
      have lq : q < N := by rw [← hN]; exact a1.lt
      have lg : g < N := by rw [← hN]; exact hrs.rm.lt
      have d0 := k4.cell (k := q) (j := 0) (by omega) (k3.cell (k := q) (j := 0) (by omega) (k2.cell (fun s => nqg s.1) q1.c0))
      have d1 := k2.cell (fun s => nqg s.1) q1.c1
      have d2 := k3.cell (k := q) (j := 2) (by omega) (k2.cell (fun s => nqg s.1) q1.c2)
      have d3 := k4.cell (k := q) (j := 3) (by omega) (k3.cell (k := q) (j := 3) (by omega) (k2.cell (fun s => nqg s.1) q1.c3))
      have e1 : w4.cell? ⟨q, 1, none⟩ = some (slv g o' nx (c - 1)) := k4.cell (k := q) (j := 1) (by omega) (by rw [← hw3]; exact World.cell?_setCell_same _ _ _ d1)
      have e2 : w4.cell? ⟨q, 2, none⟩ = some (.int .i64 cn) := by rw [← hw4]; exact World.cell?_setCell_same _ _ _ d2
      have l1 := q1.lt
      have l2 : q < w2.heap.size := Nat.lt_of_lt_of_le l1 k2.size
      have l3 : q < w3.heap.size := Nat.lt_of_lt_of_le l2 k3.size
      have fr : ∀ j, w4.frozen? ⟨q, j, none⟩ = w1.frozen? ⟨q, j, none⟩ := fun j => ((k4.fr q j l3).trans (k3.fr q j l2)).trans (k2.fr q j l1)
      have mq : Mv (fun k => k = q) w2 w4 := (k3.mv.mono fun k _ s => by obtain ⟨j, s, _⟩ := s; exact s).trans' (k4.mv.mono fun k _ s => by obtain ⟨j, s, _⟩ := s; exact s)
      have mg : Mv (fun k => k = g) w1 w2 := k2.mv.mono fun k _ s => by obtain ⟨j, s, _⟩ := s; exact s
      have m14 : Mv (fun k => k = g ∨ k = q) w1 w4 := (mg.mono fun k _ e => .inl e).trans' (mq.mono fun k _ e => .inr e)
      have mw4 : Mv (fun k => k = g ∨ k = q) w0 w4 := (Mv.below b1).trans' m14
      have nBe : ∀ k, B k → ¬ (k = g ∨ k = q) := fun k hk e => e.elim (fun e => (a1.nB k hk).2 (by rw [e]; rfl)) (a1.nB k hk).1
      have hrs1 := hrs.cv (S := fun _ _ => False) (Cv.below b1) (fun _ _ _ h => h)
      have hlen1 := hrs.le
      rw [List.length_cons, hnx] at hlen1
      have sv4 : SV w4 (slv g o' nx (c - 1)) xs := by
        refine .inr ⟨g, o', c - 1, by rw [hnx], ?_⟩
        have r2 : RS w2 g o' (c - 1) xs := by
          by_cases hc : c = 1
          · rw [if_pos hc] at ho'
            subst ho'
            have : xs = [] := List.eq_nil_of_length_eq_zero (by omega)
            subst this
            refine ⟨by simp, ⟨Nat.lt_of_lt_of_le hrs1.rm.lt k2.size, by unfold maxLen; omega, fun j hj => by omega, fun j hj => by omega⟩, RA.nil _ _ _⟩
          · rw [if_neg hc] at ho'
            subst ho'
            have ra := (RA.app (xs := [r]) (ys := xs)).1 hrs1.ra
            have r1 : RS w1 g (o + 8) (c - 1) xs := ⟨by omega, hrs1.rm.sub (a := 1) (by omega), ra.2⟩
            exact r1.cv k2 (fun j h1 h2 s => by have := s.2.2; omega)
        have := (SV.mv (v := slv g o' xs.length (c - 1)) (.inr ⟨g, o', c - 1, rfl, r2⟩) mq (fun k hk e => nqg (by injection hk with hk; have hk' : g = k := hk; omega)))
        rcases this with ⟨z, _⟩ | ⟨g2, o2, c2, z, hz⟩
        · cases z
        · injection z with z1 z2 z3
          injection z1 with z1
          injection z1 with z4 z5
          subst z4; subst z5; subst z3
          exact hz
      have Q4 : Qm nb w4 q B (slv g o' nx (c - 1)) xs F L.length n := ⟨d0, e1, by rw [hcn]; exact e2, d3, (fr 1).trans q1.f1, (fr 2).trans q1.f2, (fr 3).trans q1.f3, sv4, RF.mv mw4 nBe _ _ rf, a1.nq, a1.nB, fun k hk => Nat.lt_of_lt_of_le (a1.lo k hk) mw4.size, by have := a1.len; rw [List.length_cons] at this; omega, ((q1.xt.cv k2 (fun j hj s => nqg s.1) l1).cv k3 (fun j hj s => by omega) l2).cv k4 (fun j hj s => by omega) l3⟩
      obtain ⟨ts, hlc, hrt⟩ := LR.chain _ _ (LR.mv mw4 nBe _ _ r3)
      obtain ⟨m, hm⟩ := a2.fl
      obtain ⟨hy1, hy2⟩ := hm y (List.mem_cons_self ..)
      have hup := Fo.Up.toL _ hy2
      have hl2 : L2.length = L.length := by rw [← eL]; simp
      have htl : ts.length ≤ 200000 := by
        rw [hrt.len]
        have z1 := elsL_len y.k.toL
        rw [elsL_toL] at z1
        have z2 := hpm.length_eq
        rw [List.length_append] at z2
        rw [List.length_cons] at a4
        omega
      have hs4 : N + 1 ≤ w4.heap.size := by have := m14.size; have : w1.heap.size = N + 1 := by rw [← hw1]; simp [hN]
                                            omega
      have bxN : ∀ j u, #[vc0 r.v, vc1 r.v, vc2 r.v, vc3 r.v, vc4 r.v, vc5 r.v, .int .i64 r.t, ptrV r.p][j]? = some u → w4.cell? ⟨N, j, none⟩ = some u := fun j u hj => m14.cell (a := ⟨N, j, none⟩) (fun e => by have e' : N = g ∨ N = q := e; omega) (bx j u hj)
      have lbx : bz < N := by rw [← hN]; exact hz0.lt
      have qbx : q < bz := by rw [← hbx]; exact hlt.1 q ((a6 q).2 (.inl rfl))
      have gbx : g < bz := by rw [← hbx]; exact hlt.1 g ((a6 g).2 (.inr rfl))
      have hz4 : Bz w4 bz := hz0.mv mw4 (fun e => by have e' : bz = g ∨ bz = q := e; omega)
      have hT := trees_any ts r.p B w4 hlc Q4.lo (by omega)
      have hTF : Hid (Calls Tryz.prog 47 #[ptrV r.p] w4 fun e V5 => ∃ pt nt ct, e = .returned (.slice pt nt ct) ∧ Calls Tryz.prog 46 #[qp q, .slice pt nt ct] V5 fun e V6 => e = .returned (.tuple #[]) ∧ (V6.cell? ⟨N, 0, none⟩ = some (vc0 r.v) ∧ V6.cell? ⟨N, 1, none⟩ = some (vc1 r.v) ∧ V6.cell? ⟨N, 2, none⟩ = some (vc2 r.v) ∧ V6.cell? ⟨N, 3, none⟩ = some (vc3 r.v) ∧ V6.cell? ⟨N, 4, none⟩ = some (vc4 r.v) ∧ V6.cell? ⟨N, 5, none⟩ = some (vc5 r.v)) ∧ Bz V6 bz ∧ Qg nb key w0 q E B L n V6) := by
        refine hT.mono ?_
        rintro e V5 ⟨tv, rfl, svt, hb5, hfr⟩
        obtain ⟨pt, ct, htv⟩ := svt.shape
        refine ⟨pt, ts.length, ct, by rw [htv], ?_⟩
        rw [← htv]
        have s5 := hb5.size
        have cfr := free_any hB (Q4.below hb5) (m := m) (T := y.k.toL) (hm.sub fun z hz => List.mem_cons_of_mem _ hz) (fun z hz => .inl (hup z hz).1) (fun z hz => (hup z hz).2) svt (RF.mv (E := fun _ => False) (Mv.below hb5) (fun _ _ h => h) _ _ hrt) (by omega) (fun e => by have := hfr q e; have := Q4.lt; omega) (fun k hk => ⟨fun e => by have := hfr k hk; have := Q4.sv.lt e; omega, fun hk' => by have := hfr k hk; have := Q4.lo k hk'; omega⟩)
        refine cfr.mono ?_
        rintro e V6 ⟨rfl, F', ⟨v', xs', B', Q6, m6, g6, at6⟩, hF'⟩
        have hQI : QI key F' L2 n := by
          rcases hF' with ⟨hne, rfl⟩ | ⟨rfl, fp, fs⟩
          · obtain ⟨L3, z, hz⟩ := a2.pop hne
            injection z with _ z
            subst z
            exact hz
          · obtain ⟨m2, h2⟩ := leastL_fl key y.k.toL.length y.k.toL (by omega) (fun z hz => (hup z hz).2)
            have hp2 : (elsL F').Perm L2 := by
              refine (elsL_perm fp).trans ((leastL_els _ _ _).trans ?_)
              rw [elsL_toL]
              rw [elsL_nil, List.append_nil] at hpm
              exact hpm
            have hst := strict_of hp2 (List.pairwise_cons.1 a2.so).2 (h2.sub fun z hz => fp.mem_iff.1 hz) fs
            obtain ⟨L3, z, hz⟩ := a2.pop1 (N := y.k.toL.length) (by omega) fp hst
            injection z with _ z
            subst z
            exact hz
        have nN : ¬ (N = q ∨ nbk (slv g o' nx (c - 1)) = some N ∨ nbk tv = some N) := by
          rintro (e | e | e)
          · omega
          · injection e with e; have e' : g = N := e; omega
          · have := hfr N e; omega
        have nX : ¬ (bz = q ∨ nbk (slv g o' nx (c - 1)) = some bz ∨ nbk tv = some bz) := by
          rintro (e | e | e)
          · omega
          · injection e with e; have e' : g = bz := e; omega
          · have := hfr bz e; omega
        have Eq : ∀ k, k = q ∨ k = g → E k := fun k hk => (a6 k).2 (hk.imp id (fun e => by rw [e]; rfl))
        refine ⟨rfl, ⟨m6.cell (a := ⟨N, 0, none⟩) nN (bcell hb5 (by omega) (bxN 0 _ rfl)), m6.cell (a := ⟨N, 1, none⟩) nN (bcell hb5 (by omega) (bxN 1 _ rfl)), m6.cell (a := ⟨N, 2, none⟩) nN (bcell hb5 (by omega) (bxN 2 _ rfl)), m6.cell (a := ⟨N, 3, none⟩) nN (bcell hb5 (by omega) (bxN 3 _ rfl)), m6.cell (a := ⟨N, 4, none⟩) nN (bcell hb5 (by omega) (bxN 4 _ rfl)), m6.cell (a := ⟨N, 5, none⟩) nN (bcell hb5 (by omega) (bxN 5 _ rfl))⟩, (hz4.mv (D := fun _ => False) (Mv.below hb5) (fun h => h)).mv m6 nX, fun k => k = q ∨ nbk v' = some k, B', ⟨v', xs', F', L2, Q6, hQI, eL, by rw [List.length_cons] at a4; omega, a5, fun _ => Iff.rfl⟩, ?_, ?_, fun k hk => (g6 k hk).imp id (fun s => by have := mw4.size; omega)⟩
        · refine ((mw4.mono fun k _ e => Eq k e.symm).trans' (Mv.below hb5)).trans (E' := fun k => k = q ∨ nbk (slv g o' nx (c - 1)) = some k ∨ nbk tv = some k) (fun k hk => ?_) m6
          rcases hk with e | e | e
          · exact .inl (Eq k (.inl e))
          · injection e with e; exact .inl (Eq k (.inr e.symm))
          · exact .inr (by have := hfr k e; have := mw4.size; omega)
        · intro k hk
          rcases hk with e | e
          · exact .inl (Eq k (.inl e))
          · rcases at6 with z | ⟨k', z, hk'⟩
            · rw [e] at z; injection z with z; exact .inl (Eq k (.inr z))
            · rw [e] at z; injection z with z; exact .inr (by have := mw4.size; omega)
      rw [hrx] at hTF bx bxN hw1
      have y2 := bxN 7 _ rfl
      have u0 := (hrs.ra.at (j := 0) rfl)
      rw [show o + 0 * 8 = o by omega, hrx] at u0
      obtain ⟨u0, u1, u2⟩ := u0
      have v0 := (hrs1.ra.at (j := 0) rfl)
      rw [show o + 0 * 8 = o by omega, hrx] at v0
      obtain ⟨v0, v1, v2⟩ := v0
      have z0 := hrs1.rm.fz 0 (by omega)
      have z1 := hrs1.rm.fz 1 (by omega)
      have z2 := hrs1.rm.fz 2 (by omega)
      have z3 := hrs1.rm.fz 3 (by omega)
      have z4 := hrs1.rm.fz 4 (by omega)
      have z5 := hrs1.rm.fz 5 (by omega)
      have z6 := hrs1.rm.fz 6 (by omega)
      have z7 := hrs1.rm.fz 7 (by omega)
      rw [Nat.add_zero] at z0
      have qc := a1.c1
      have qc1 := q1.c1
      rw [List.length_cons, hnx] at qc qc1 d1
      have qd2 : w3.cell? ⟨q, 2, none⟩ = some (.int .i64 ((cn : Int) + 1)) := by rw [d2, List.length_cons, hcn]; rfl
      have qf1 := (k2.fr q 1 l1).trans q1.f1
      have qf2 := ((k3.fr q 2 l2).trans (k2.fr q 2 l1)).trans q1.f2
      have hcI : (cn : Int) ≤ 200000 := by rw [List.length_cons] at a4; omega
      have hxI : (nx : Int) + 1 ≤ 300000 := by have := a1.len; rw [List.length_cons] at this; omega
      have hc0 : ¬ c = 0 := by omega
      have hcl : nx + 1 ≤ c := hlen1
      obtain ⟨nn, hnn⟩ : ∃ nn, nx + 1 = nn := ⟨_, rfl⟩
      rw [hnn] at qc qc1 d1 hcl
      have hn1 : nn - 1 = nx := by omega
      have hn2 : 1 ≤ nn := by omega
      have hn3 : ¬ nn = 0 := by omega
      have hn4 : ((nn : Int) == 0) = false := by simp; omega
      have hn5 : (0 : Int) < (nn : Int) := by omega
      have hn6 : (nn : Int) ≤ 300000 := by omega
      have hc3 : 1 ≤ c := by omega
      unfold slv at qc qc1 d1 hw3
      clear hnn hxI
      obtain ⟨rt, hrt'⟩ : ∃ rt, r.t = rt := ⟨_, rfl⟩
      obtain ⟨rp, hrp'⟩ : ∃ rp, r.p = rp := ⟨_, rfl⟩
      rw [hrt'] at hw1 u1 v1 bx bxN
      rw [hrp'] at hw1 u2 v2 bx bxN hTF y2
      have hNH := hidP hN
      clear hlt hz4 hz0 lbx qbx gbx bw0 a1 a2 a4 a5 a6 hpm ex eL ex' rf hrs hrs1 r1 r2 r3 hrx b1 q1 k2 k3 k4 bx d0 d2 d3 e1 e2 l1 l2 l3 fr mq mg m14 mw4 nBe sv4 Q4 hlc hrt hm hy1 hy2 hup hl2 htl hs4 bxN hT hB hcn hnx hlen1 hrt' hrp' lq lg
      by_cases hc1 : c = 1
      · rw [if_pos hc1] at ho'
        subst ho'
        subst hc1
        unfold qp at *
        go_enter Tryz.func28, Tryz.ntmps28
        go_wp2_with (first | rw [hw0] | rw [hw1] | rw [hw2] | rw [hw3] | rw [hw4])
        refine hTF.out.mono ?_
        rintro e V5 ⟨pt, nt, ct, rfl, hF⟩
        have hFH := hidP hF
        clear hF hTF y2 u0 u1 u2 v0 v1 v2 z0 z1 z2 z3 z4 z5 z6 z7 qc qc1 d1 qd2 qf1 qf2
        go_wp2_with fail
        refine hFH.out.mono ?_
        rintro e V6 ⟨rfl, y6, hz6, hg⟩
        obtain ⟨V7, hw7, c7, m7⟩ := hz6.put x
        have hgH := hidP (hbox.out V6 V7 hg m7)
        obtain ⟨z6c, z6f, _⟩ := hz6
        clear hg hFH hbox m7
        go_wp2_with (rw [hw7])
        refine bodyPost_ret (v := .tuple #[ev x, .int .i64 0]) (by simp [results, Tryz.results28, go_sem, c7]) rfl ⟨rfl, hgH.out⟩
      · rw [if_neg hc1] at ho'
        subst ho'
        unfold qp at *
        go_enter Tryz.func28, Tryz.ntmps28
        go_wp2_with (first | rw [hw0] | rw [hw1] | rw [hw2] | rw [hw3] | rw [hw4])
        refine hTF.out.mono ?_
        rintro e V5 ⟨pt, nt, ct, rfl, hF⟩
        have hFH := hidP hF
        clear hF hTF y2 u0 u1 u2 v0 v1 v2 z0 z1 z2 z3 z4 z5 z6 z7 qc qc1 d1 qd2 qf1 qf2
        go_wp2_with fail
        refine hFH.out.mono ?_
        rintro e V6 ⟨rfl, y6, hz6, hg⟩
        obtain ⟨V7, hw7, c7, m7⟩ := hz6.put x
        have hgH := hidP (hbox.out V6 V7 hg m7)
        obtain ⟨z6c, z6f, _⟩ := hz6
        clear hg hFH hbox m7
        go_wp2_with (rw [hw7])
        refine bodyPost_ret (v := .tuple #[ev x, .int .i64 0]) (by simp [results, Tryz.results28, go_sem, c7]) rfl ⟨rfl, hgH.out⟩
end Go.Proofs.YtdcidlgmnnaahaaGreat.Qw
/- twin: a queue with the same elements. -/
namespace Go.Proofs.YtdcidlgmnnaahaaGreat.Qw
open Go.RowKit Go.Shelf Go.Lib
attribute [local go_sem] Oper.semAt_some
theorem SV.own {w : World} {v : Value} {base : Nat} {e : TypeId} {xs : List Rec} (h : w.ownsRow base e 8 v xs.length (flat xs)) : SV w v xs ∧ ∀ k, nbk v = some k → base ≤ k := by
  rcases h.2 with ⟨rfl, h1⟩ | ⟨g, cap, cur, rfl, hb, hg, h1, h2, h3, h4⟩
  · exact ⟨.inl ⟨rfl, List.eq_nil_of_length_eq_zero h1⟩, fun k hk => by cases hk⟩
  · refine ⟨.inr ⟨g, 0, cap, rfl, h1, ⟨(Array.getElem?_eq_some_iff.1 hg).1, h2, fun j hj => ?_, fun j hj => ?_⟩, fun j x hx => ?_⟩, fun k hk => by injection hk with hk; rw [← hk]; exact hb⟩
    · unfold World.cell?
      rw [hg]
      have : j < cur.size := by rw [h3]; omega
      simp [this]
    · unfold World.frozen?
      rw [hg]
      simp
    · have := h.cells (g := g) rfl j x hx
      rw [Addr.add_lit] at this
      exact this
theorem clone_any {w : World} {v : Value} {xs : List Rec} (h : SV w v xs) (hl : xs.length ≤ 400000) : Calls Tryz.prog 72 #[v] w fun e V => ∃ v', e = .returned v' ∧ SV V v' xs ∧ (∀ k, nbk v' = some k → w.heap.size ≤ k) ∧ Below w.heap.size w V := by
  rcases h with ⟨rfl, rfl⟩ | ⟨g, o, c, rfl, h⟩
  · have hc := AnyE.slices_Clone_nil Tryz.cloneTw 0 0 w
    change Calls Tryz.prog 72 _ _ _ at hc
    refine hc.mono ?_
    rintro e V ⟨rfl, rfl⟩
    exact ⟨_, rfl, .inl ⟨rfl, rfl⟩, (fun k hk => by cases hk), Below.refl _ _⟩
  · obtain ⟨i0, hi, hz0, hz1, hz2⟩ := infoT
    have hc := AnyE.slices_Clone Tryz.cloneTw i0 _ 8 80 hi hz0 hz1 hz2 rfl (by decide) Tryz.sizeOf94 g o xs.length c (flat xs) w (flat_len xs) (by unfold maxLen; omega) (by omega) (fun j u hj => h.ra j u hj) (flat_one xs)
    change Calls Tryz.prog 72 _ _ _ at hc
    refine hc.mono ?_
    rintro e V ⟨v', rfl, ho, _, hb⟩
    obtain ⟨h1, h2⟩ := SV.own ho
    exact ⟨v', rfl, h1, h2, hb⟩
set_option maxRecDepth 100000 in
set_option maxHeartbeats 4000000 in
theorem twin_any {nb : NB} (hNf : nb.f = .func (.func nb.n) #[] #[]) {key : El → Int} {w : World} {q : Nat} {E B : Nat → Prop} {L : List El} {n : Nat} (h : Qu nb key w q E B L n) :
    Calls Tryz.prog 75 #[qp q] w fun e V => ∃ q' E', e = .returned (qp q') ∧ Qu nb.z key V q' E' B L n ∧ (∀ k, E' k → w.heap.size ≤ k) ∧ Below w.heap.size w V := by
  obtain ⟨v, xs, F, L', a1, a2, a3, a4, a5, a6⟩ := h
  obtain ⟨pv, cv, hv⟩ := a1.sv.shape
  obtain ⟨nv, hnv⟩ : ∃ nv, xs.length = nv := ⟨_, rfl⟩
  rw [hnv] at hv
  obtain ⟨cn, hcn⟩ : ∃ cn, L.length = cn := ⟨_, rfl⟩
  have hbd : Below w.heap.size w w.drew := (Below.refl _ _).drew
  have ad := a1.below hbd
  have hS : w.drew.cell? ⟨q, 0, none⟩ = some (.func (.func nb.n) #[] #[]) ∧ w.drew.cell? ⟨q, 1, none⟩ = some (.slice pv nv cv) ∧ w.drew.cell? ⟨q, 2, none⟩ = some (.int .i64 cn) ∧ w.drew.cell? ⟨q, 3, none⟩ = some (.int .i64 n) := ⟨ad.c0.trans (congrArg some hNf), by rw [← hv]; exact ad.c1, by rw [← hcn]; exact ad.c2, ad.c3⟩
  have hC : Hid (Calls Tryz.prog 72 #[.slice pv nv cv] w.drew fun e V1 => ∃ pv2 nv2 cv2, e = .returned (.slice pv2 nv2 cv2) ∧ (V1.cell? ⟨q, 0, none⟩ = some (.func (.func nb.n) #[] #[]) ∧ V1.cell? ⟨q, 1, none⟩ = some (.slice pv nv cv) ∧ V1.cell? ⟨q, 2, none⟩ = some (.int .i64 cn) ∧ V1.cell? ⟨q, 3, none⟩ = some (.int .i64 n)) ∧ ∃ V2, V1.alloc (.cells #[.func (.func nb.n) #[] #[], .slice pv2 nv2 cv2, .int .i64 cn, .int .i64 n] 54) = V2 ∧ (V2.cell? ⟨q, 0, none⟩ = some (.func (.func nb.n) #[] #[]) ∧ V2.cell? ⟨q, 1, none⟩ = some (.slice pv nv cv) ∧ V2.cell? ⟨q, 2, none⟩ = some (.int .i64 cn) ∧ V2.cell? ⟨q, 3, none⟩ = some (.int .i64 n)) ∧ ∃ E', Qu nb.z key V2 V1.heap.size E' B L n ∧ (∀ k, E' k → w.heap.size ≤ k) ∧ Below w.heap.size w V2) := by
    have c := clone_any ad.sv (by have := ad.len; omega)
    rw [hv] at c
    refine c.mono ?_
    rintro e V1 ⟨v', rfl, sv', hf, hb⟩
    obtain ⟨pv2, cv2, hv2⟩ := sv'.shape
    have b1 := ad.below hb
    refine ⟨pv2, xs.length, cv2, by rw [hv2], ⟨b1.c0.trans (congrArg some hNf), by rw [← hv]; exact b1.c1, by rw [← hcn]; exact b1.c2, b1.c3⟩, ?_⟩
    obtain ⟨V2, hV2⟩ : ∃ V2, V1.alloc (.cells #[.func (.func nb.n) #[] #[], .slice pv2 xs.length cv2, .int .i64 cn, .int .i64 n] 54) = V2 := ⟨_, rfl⟩
    have hb2 : Below V1.heap.size V1 V2 := by rw [← hV2]; exact (Below.refl _ _).alloc (Nat.le_refl _) _
    have b2 := b1.below hb2
    have hbw : Below w.heap.size w V2 := (hbd.trans (hb.mono (Nat.le_refl _))).trans (hb2.mono hb.size)
    have sz : w.heap.size ≤ V1.heap.size := hb.size
    have c : ∀ j u, #[Value.func (.func nb.n) #[] #[], .slice pv2 xs.length cv2, .int .i64 cn, .int .i64 n][j]? = some u → V2.cell? ⟨V1.heap.size, j, none⟩ = some u := fun j u hj => by rw [← hV2]; exact cell_at rfl hj
    have f : ∀ j, V2.frozen? ⟨V1.heap.size, j, none⟩ = false := fun j => by rw [← hV2]; exact froz_new rfl
    have lo : ∀ k, B k → k < w.heap.size := a1.lo
    refine ⟨V2, hV2, ⟨b2.c0.trans (congrArg some hNf), by rw [← hv]; exact b2.c1, by rw [← hcn]; exact b2.c2, b2.c3⟩, fun k => k = V1.heap.size ∨ nbk v' = some k, ⟨v', xs, F, L', ⟨(by unfold fnV; exact (c 0 _ rfl).trans (congrArg some hNf.symm)), by rw [hv2]; exact c 1 _ rfl, by rw [hcn]; exact c 2 _ rfl, c 3 _ rfl, f 1, f 2, f 3, sv'.mv (F := fun _ => False) (Mv.below hb2) (fun _ _ h => h), b2.rf, fun e => by have := sv'.lt e; omega, fun k hk => ⟨by have := lo k hk; omega, fun e => by have := hf k e; have := lo k hk; have : w.drew.heap.size = w.heap.size := rfl; omega⟩, b2.lo, a1.len, ⟨fun j hj => by rw [← hV2]; exact cell_new_none rfl (by simp; omega), fun j _ => by rw [← hV2]; exact froz_new rfl⟩⟩, a2, a3, a4, a5, fun _ => Iff.rfl⟩, fun k hk => ?_, hbw⟩
    rcases hk with e | e
    · omega
    · exact hf k e
  clear a1 a2 a3 a4 a5 a6 hv hnv hcn hbd ad
  unfold qp at *
  go_enter Tryz.func75, Tryz.ntmps75
  go_wp2_with fail
  refine Zs.region (S := fun W => W.cell? ⟨q, 0, none⟩ = some (.func (.func nb.n) #[] #[]) ∧ W.cell? ⟨q, 1, none⟩ = some (.slice pv nv cv) ∧ W.cell? ⟨q, 2, none⟩ = some (.int .i64 cn) ∧ W.cell? ⟨q, 3, none⟩ = some (.int .i64 n)) 19 (by kernel_rfl) ?_
  refine Zs.pure (i := 0) (oi := ⟨some 3, _, _, _, _, _⟩) (v := ?v0) rfl (by kernel_rfl) (by kernel_rfl) (by kernel_rfl) (by decide) (fun _ _ _ h => h) (Or.inl ⟨by rfl, ?hy0⟩) hS ?_
  case hy0 => (intro w hSw; (try dsimp only at hSw); go_simp; try with_reducible rfl)
  simp only [Act.put, List.setIfInBounds_toArray, List.set_cons_zero, List.set_cons_succ]
  refine Zs.pure (i := 1) (oi := ⟨some 4, _, _, _, _, _⟩) (v := ?v1) rfl (by kernel_rfl) (by kernel_rfl) (by kernel_rfl) (by decide) (fun _ _ _ h => h) (Or.inl ⟨by rfl, ?hy1⟩) hS ?_
  case hy1 => (intro w hSw; (try dsimp only at hSw); go_simp; try with_reducible rfl)
  simp only [Act.put, List.setIfInBounds_toArray, List.set_cons_zero, List.set_cons_succ]
  refine Zs.pure (i := 2) (oi := ⟨some 5, _, _, _, _, _⟩) (v := ?v2) rfl (by kernel_rfl) (by kernel_rfl) (by kernel_rfl) (by decide) (fun _ _ _ h => h) (Or.inl ⟨by rfl, ?hy2⟩) hS ?_
  case hy2 => (intro w hSw; (try dsimp only at hSw); go_simp; try with_reducible rfl)
  simp only [Act.put, List.setIfInBounds_toArray, List.set_cons_zero, List.set_cons_succ]
  refine Zs.take (i := 3) (oi := ⟨some 6, _, _, _, _, _⟩) (v := .func (.func nb.n) #[] #[]) rfl (by kernel_rfl) (by kernel_rfl) (by kernel_rfl) (by decide) (by kernel_rfl) (by kernel_rfl) (fun _ _ _ h => h) (Or.inl ⟨by rfl, ?hy3⟩) hS ?_
  case hy3 => (intro w hSw; (try dsimp only at hSw); go_simp; try with_reducible rfl)
  simp only [Act.put, List.setIfInBounds_toArray, List.set_cons_zero, List.set_cons_succ]
  refine Zs.pure (i := 4) (oi := ⟨some 7, _, _, _, _, _⟩) (v := ?v4) rfl (by kernel_rfl) (by kernel_rfl) (by kernel_rfl) (by decide) (fun _ _ _ h => h) (Or.inl ⟨by rfl, ?hy4⟩) hS ?_
  case hy4 => (intro w hSw; (try dsimp only at hSw); go_simp; try with_reducible rfl)
  simp only [Act.put, List.setIfInBounds_toArray, List.set_cons_zero, List.set_cons_succ]
  refine Zs.pure (i := 5) (oi := ⟨some 8, _, _, _, _, _⟩) (v := ?v5) rfl (by kernel_rfl) (by kernel_rfl) (by kernel_rfl) (by decide) (fun _ _ _ h => h) (Or.inl ⟨by rfl, ?hy5⟩) hS ?_
  case hy5 => (intro w hSw; (try dsimp only at hSw); go_simp; try with_reducible rfl)
  simp only [Act.put, List.setIfInBounds_toArray, List.set_cons_zero, List.set_cons_succ]
  refine Zs.pure (i := 6) (oi := ⟨some 9, _, _, _, _, _⟩) (v := ?v6) rfl (by kernel_rfl) (by kernel_rfl) (by kernel_rfl) (by decide) (fun _ _ _ h => h) (Or.inl ⟨by rfl, ?hy6⟩) hS ?_
  case hy6 => (intro w hSw; (try dsimp only at hSw); go_simp; try with_reducible rfl)
  simp only [Act.put, List.setIfInBounds_toArray, List.set_cons_zero, List.set_cons_succ]
  refine Zs.take (i := 7) (oi := ⟨some 10, _, _, _, _, _⟩) (v := .slice pv nv cv) rfl (by kernel_rfl) (by kernel_rfl) (by kernel_rfl) (by decide) (by kernel_rfl) (by kernel_rfl) (fun _ _ _ h => h) (Or.inl ⟨by rfl, ?hy7⟩) hS ?_
  case hy7 => (intro w hSw; (try dsimp only at hSw); go_simp; try with_reducible rfl)
  simp only [Act.put, List.setIfInBounds_toArray, List.set_cons_zero, List.set_cons_succ]
  refine Zs.pure (i := 9) (oi := ⟨some 12, _, _, _, _, _⟩) (v := ?v9) rfl (by kernel_rfl) (by kernel_rfl) (by kernel_rfl) (by decide) (fun _ _ _ h => h) (Or.inl ⟨by rfl, ?hy9⟩) hS ?_
  case hy9 => (intro w hSw; (try dsimp only at hSw); go_simp; try with_reducible rfl)
  simp only [Act.put, List.setIfInBounds_toArray, List.set_cons_zero, List.set_cons_succ]
  refine Zs.pure (i := 10) (oi := ⟨some 13, _, _, _, _, _⟩) (v := ?v10) rfl (by kernel_rfl) (by kernel_rfl) (by kernel_rfl) (by decide) (fun _ _ _ h => h) (Or.inl ⟨by rfl, ?hy10⟩) hS ?_
  case hy10 => (intro w hSw; (try dsimp only at hSw); go_simp; try with_reducible rfl)
  simp only [Act.put, List.setIfInBounds_toArray, List.set_cons_zero, List.set_cons_succ]
  refine Zs.pure (i := 11) (oi := ⟨some 14, _, _, _, _, _⟩) (v := ?v11) rfl (by kernel_rfl) (by kernel_rfl) (by kernel_rfl) (by decide) (fun _ _ _ h => h) (Or.inl ⟨by rfl, ?hy11⟩) hS ?_
  case hy11 => (intro w hSw; (try dsimp only at hSw); go_simp; try with_reducible rfl)
  simp only [Act.put, List.setIfInBounds_toArray, List.set_cons_zero, List.set_cons_succ]
  refine Zs.take (i := 12) (oi := ⟨some 15, _, _, _, _, _⟩) (v := .int .i64 cn) rfl (by kernel_rfl) (by kernel_rfl) (by kernel_rfl) (by decide) (by kernel_rfl) (by kernel_rfl) (fun _ _ _ h => h) (Or.inl ⟨by rfl, ?hy12⟩) hS ?_
  case hy12 => (intro w hSw; (try dsimp only at hSw); go_simp; try with_reducible rfl)
  simp only [Act.put, List.setIfInBounds_toArray, List.set_cons_zero, List.set_cons_succ]
  refine Zs.pure (i := 13) (oi := ⟨some 16, _, _, _, _, _⟩) (v := ?v13) rfl (by kernel_rfl) (by kernel_rfl) (by kernel_rfl) (by decide) (fun _ _ _ h => h) (Or.inl ⟨by rfl, ?hy13⟩) hS ?_
  case hy13 => (intro w hSw; (try dsimp only at hSw); go_simp; try with_reducible rfl)
  simp only [Act.put, List.setIfInBounds_toArray, List.set_cons_zero, List.set_cons_succ]
  refine Zs.pure (i := 14) (oi := ⟨some 17, _, _, _, _, _⟩) (v := ?v14) rfl (by kernel_rfl) (by kernel_rfl) (by kernel_rfl) (by decide) (fun _ _ _ h => h) (Or.inl ⟨by rfl, ?hy14⟩) hS ?_
  case hy14 => (intro w hSw; (try dsimp only at hSw); go_simp; try with_reducible rfl)
  simp only [Act.put, List.setIfInBounds_toArray, List.set_cons_zero, List.set_cons_succ]
  refine Zs.pure (i := 15) (oi := ⟨some 18, _, _, _, _, _⟩) (v := ?v15) rfl (by kernel_rfl) (by kernel_rfl) (by kernel_rfl) (by decide) (fun _ _ _ h => h) (Or.inl ⟨by rfl, ?hy15⟩) hS ?_
  case hy15 => (intro w hSw; (try dsimp only at hSw); go_simp; try with_reducible rfl)
  simp only [Act.put, List.setIfInBounds_toArray, List.set_cons_zero, List.set_cons_succ]
  refine Zs.take (i := 16) (oi := ⟨some 19, _, _, _, _, _⟩) (v := .int .i64 n) rfl (by kernel_rfl) (by kernel_rfl) (by kernel_rfl) (by decide) (by kernel_rfl) (by kernel_rfl) (fun _ _ _ h => h) (Or.inl ⟨by rfl, ?hy16⟩) hS ?_
  case hy16 => (intro w hSw; (try dsimp only at hSw); go_simp; try with_reducible rfl)
  simp only [Act.put, List.setIfInBounds_toArray, List.set_cons_zero, List.set_cons_succ]
  refine Zs.one (i := 8) (oi := ⟨some 11, _, _, _, _, _⟩) (by kernel_rfl) rfl (fun K hK => ?_)
  go_simp
  refine hC.out.mono ?_
  rintro e V1 ⟨pv2, nv2, cv2, rfl, hS1, V2, hV2, fin⟩
  have finH := hidP fin
  clear fin hC
  go_wp2_with fail
  refine hK.out _ _ (fun _ => hS1) ?_
  clear hK K
  try simp only [Act.put, List.setIfInBounds_toArray, List.set_cons_zero, List.set_cons_succ]
  refine Zs.pure (i := 17) (oi := ⟨some 20, _, _, _, _, _⟩) (v := .agg #[.func (.func nb.n) #[] #[], .slice pv2 nv2 cv2, .int .i64 cn, .int .i64 n]) rfl (by kernel_rfl) (by kernel_rfl) (by kernel_rfl) (by decide) (fun _ _ _ h => h) (Or.inl ⟨by rfl, ?hy17⟩) hS1 ?_
  case hy17 => (intro w hSw; (try dsimp only at hSw); go_simp; try with_reducible rfl)
  simp only [Act.put, List.setIfInBounds_toArray, List.set_cons_zero, List.set_cons_succ]
  refine Zs.one (i := 18) (oi := ⟨some 21, _, _, _, _, _⟩) (by kernel_rfl) rfl (fun K hK => ?_)
  go_simp
  refine hK.out _ _ (fun _ => finH.out.1) ?_
  clear hK K
  try simp only [Act.put, List.setIfInBounds_toArray, List.set_cons_zero, List.set_cons_succ]
  refine Zs.one (i := 19) (oi := ⟨some 2, _, _, _, _, _⟩) (by kernel_rfl) rfl (fun K hK => ?_)
  go_simp
  refine hK.out _ _ (fun q => absurd q (by decide)) ?_
  clear hK K
  try simp only [Act.put, List.setIfInBounds_toArray, List.set_cons_zero, List.set_cons_succ]
  refine Zs.done (by kernel_rfl) ?_ _
  go_wp2_with fail
  go_ret
  exact ⟨V1.heap.size, finH.out.2.choose, rfl, finH.out.2.choose_spec⟩
end Go.Proofs.YtdcidlgmnnaahaaGreat.Qw
/- All: the elements in order, told to a taker. -/
namespace Go.Proofs.YtdcidlgmnnaahaaGreat.Qw
open Go.RowKit Go.Shelf Go.Lib
attribute [local go_sem] Oper.semAt_some
set_option maxRecDepth 100000 in
set_option maxHeartbeats 1000000 in
theorem allf_any (q : Nat) (w : World) : Calls Tryz.prog 57 #[qp q] w fun e V => e = .returned (.func (.func 74) #[] #[.pointer (some ⟨w.heap.size, 0, none⟩)]) ∧ V = w.alloc (.cells #[qp q] 58) := by
  unfold qp
  go_enter Tryz.func57, Tryz.ntmps57
  go_wp2_with fail
  go_ret
  exact ⟨rfl, rfl⟩
/-- A taker: it takes x, and wants more or not; it turns nothing but D and what is new. -/
def Tak (f : Nat) (caps : Array Value) (J : List El → (Nat → Prop) → World → Prop) (Jx : (Nat → Prop) → World → Prop) : Prop :=
  ∀ x rest D W, J (x :: rest) D W → Calls Tryz.prog f (#[ev x] ++ caps) W fun e V => Mv D W V ∧ ((e = .returned (.bool true) ∧ ∃ D', Gr D W D' ∧ J rest D' V) ∨ (e = .returned (.bool false) ∧ ∃ D', Gr D W D' ∧ Jx D' V))
/-- Where the loop stands: what is left in the twin, beside the taker's. -/
def AS (nb : NB) (key : El → Int) (w : World) (D0 : Nat → Prop) (q : Nat) (n : Nat) (J : List El → (Nat → Prop) → World → Prop) (s rest : List El) (W : World) : Prop :=
  ∃ D E B, Qu nb key W q E B rest n ∧ J s D W ∧ (∀ k, E k → w.heap.size ≤ k ∧ ¬ D k) ∧ (∀ k, B k → ¬ D k) ∧ Mv D0 w W ∧ Gr D0 w D
/-- The end: all is told, or it was left. -/
def AE (w : World) (D0 : Nat → Prop) (J : List El → (Nat → Prop) → World → Prop) (Jx : (Nat → Prop) → World → Prop) (V : World) : Prop :=
  Mv D0 w V ∧ ∃ D, Gr D0 w D ∧ (J [] D V ∨ Jx D V)
theorem AS.pop {nb : NB} {key : El → Int} (hB : Bf nb key) {w : World} {D0 : Nat → Prop} {q n : Nat} {J : List El → (Nat → Prop) → World → Prop} (tJ : Ter w.heap.size J) {s : List El} {x : El} {rest : List El} {W : World} (h : AS nb key w D0 q n J s (x :: rest) W) :
    Calls Tryz.prog 28 #[qp q] W fun e V => e = .returned (.tuple #[ev x, .int .i64 0]) ∧ AS nb key w D0 q n J s rest V := by
  obtain ⟨D, E, B, u, j, h1, h2, h3, h4⟩ := h
  refine (pop_some hB u).mono ?_
  rintro e V ⟨rfl, E', B', u', m, g, gb⟩
  have lD := tJ.low _ _ _ j
  have szW := h3.size
  refine ⟨rfl, D, E', B', u', tJ.keep _ _ _ _ j (m.mono fun k _ e => ⟨(h1 k e).2, (h1 k e).1⟩), fun k hk => ?_, fun k hk => ?_, h3.trans (E' := E) (fun k hk => .inr (h1 k hk).1) m, h4⟩
  · rcases g k hk with s | s
    · exact h1 k s
    · exact ⟨by omega, fun d => by have := lD k d; omega⟩
  · rcases gb k hk with s | s
    · exact h2 k s
    · exact fun d => by have := lD k d; omega
/-- A box at b with x in it. -/
structure Bv (w : World) (b : Nat) (x : El) : Prop where
  c : (w.cell? ⟨b, 0, none⟩ = some (vc0 x) ∧ w.cell? ⟨b, 1, none⟩ = some (vc1 x) ∧ w.cell? ⟨b, 2, none⟩ = some (vc2 x) ∧ w.cell? ⟨b, 3, none⟩ = some (vc3 x) ∧ w.cell? ⟨b, 4, none⟩ = some (vc4 x) ∧ w.cell? ⟨b, 5, none⟩ = some (vc5 x))
  f : (w.frozen? ⟨b, 0, none⟩ = false ∧ w.frozen? ⟨b, 1, none⟩ = false ∧ w.frozen? ⟨b, 2, none⟩ = false ∧ w.frozen? ⟨b, 3, none⟩ = false ∧ w.frozen? ⟨b, 4, none⟩ = false ∧ w.frozen? ⟨b, 5, none⟩ = false)
  lt : b < w.heap.size
theorem Bv.new (w : World) (x : El) : Bv (w.alloc (.cells #[vc0 x, vc1 x, vc2 x, vc3 x, vc4 x, vc5 x] 61)) w.heap.size x :=
  ⟨⟨cell_at rfl rfl, cell_at rfl rfl, cell_at rfl rfl, cell_at rfl rfl, cell_at rfl rfl, cell_at rfl rfl⟩, ⟨froz_new rfl, froz_new rfl, froz_new rfl, froz_new rfl, froz_new rfl, froz_new rfl⟩, by simp⟩
theorem Bv.mv {D : Nat → Prop} {w V : World} {b : Nat} {x : El} (h : Bv w b x) (m : Mv D w V) (hb : ¬ D b) : Bv V b x :=
  ⟨⟨m.cell (a := ⟨b, 0, none⟩) hb h.c.1, m.cell (a := ⟨b, 1, none⟩) hb h.c.2.1, m.cell (a := ⟨b, 2, none⟩) hb h.c.2.2.1, m.cell (a := ⟨b, 3, none⟩) hb h.c.2.2.2.1, m.cell (a := ⟨b, 4, none⟩) hb h.c.2.2.2.2.1, m.cell (a := ⟨b, 5, none⟩) hb h.c.2.2.2.2.2⟩, ⟨(m.froz (a := ⟨b, 0, none⟩) hb h.lt).trans h.f.1, (m.froz (a := ⟨b, 1, none⟩) hb h.lt).trans h.f.2.1, (m.froz (a := ⟨b, 2, none⟩) hb h.lt).trans h.f.2.2.1, (m.froz (a := ⟨b, 3, none⟩) hb h.lt).trans h.f.2.2.2.1, (m.froz (a := ⟨b, 4, none⟩) hb h.lt).trans h.f.2.2.2.2.1, (m.froz (a := ⟨b, 5, none⟩) hb h.lt).trans h.f.2.2.2.2.2⟩, Nat.lt_of_lt_of_le h.lt m.size⟩
theorem Bv.put {w : World} {b : Nat} {x : El} (h : Bv w b x) (y : El) : ∃ V, ((((((w.setCell ⟨b, 0, none⟩ (vc0 y)).setCell ⟨b, 1, none⟩ (vc1 y)).setCell ⟨b, 2, none⟩ (vc2 y)).setCell ⟨b, 3, none⟩ (vc3 y)).setCell ⟨b, 4, none⟩ (vc4 y)).setCell ⟨b, 5, none⟩ (vc5 y)) = V ∧ Bv V b y ∧ Mv (fun k => k = b) w V := by
  have k := Cv.cells w b 0 [vc0 y, vc1 y, vc2 y, vc3 y, vc4 y, vc5 y]
  refine ⟨_, rfl, ⟨?_, ?_, ?_⟩, ?_⟩
  · have hc := h.c
    exact ⟨((World.cell?_setCell_other _ _ _ _ (by simp)).trans ((World.cell?_setCell_other _ _ _ _ (by simp)).trans ((World.cell?_setCell_other _ _ _ _ (by simp)).trans ((World.cell?_setCell_other _ _ _ _ (by simp)).trans ((World.cell?_setCell_other _ _ _ _ (by simp)).trans (World.cell?_setCell_same _ _ _ (hc.1))))))), ((World.cell?_setCell_other _ _ _ _ (by simp)).trans ((World.cell?_setCell_other _ _ _ _ (by simp)).trans ((World.cell?_setCell_other _ _ _ _ (by simp)).trans ((World.cell?_setCell_other _ _ _ _ (by simp)).trans (World.cell?_setCell_same _ _ _ ((World.cell?_setCell_other _ _ _ _ (by simp)).trans (hc.2.1))))))), ((World.cell?_setCell_other _ _ _ _ (by simp)).trans ((World.cell?_setCell_other _ _ _ _ (by simp)).trans ((World.cell?_setCell_other _ _ _ _ (by simp)).trans (World.cell?_setCell_same _ _ _ ((World.cell?_setCell_other _ _ _ _ (by simp)).trans ((World.cell?_setCell_other _ _ _ _ (by simp)).trans (hc.2.2.1))))))), ((World.cell?_setCell_other _ _ _ _ (by simp)).trans ((World.cell?_setCell_other _ _ _ _ (by simp)).trans (World.cell?_setCell_same _ _ _ ((World.cell?_setCell_other _ _ _ _ (by simp)).trans ((World.cell?_setCell_other _ _ _ _ (by simp)).trans ((World.cell?_setCell_other _ _ _ _ (by simp)).trans (hc.2.2.2.1))))))), ((World.cell?_setCell_other _ _ _ _ (by simp)).trans (World.cell?_setCell_same _ _ _ ((World.cell?_setCell_other _ _ _ _ (by simp)).trans ((World.cell?_setCell_other _ _ _ _ (by simp)).trans ((World.cell?_setCell_other _ _ _ _ (by simp)).trans ((World.cell?_setCell_other _ _ _ _ (by simp)).trans (hc.2.2.2.2.1))))))), (World.cell?_setCell_same _ _ _ ((World.cell?_setCell_other _ _ _ _ (by simp)).trans ((World.cell?_setCell_other _ _ _ _ (by simp)).trans ((World.cell?_setCell_other _ _ _ _ (by simp)).trans ((World.cell?_setCell_other _ _ _ _ (by simp)).trans ((World.cell?_setCell_other _ _ _ _ (by simp)).trans (hc.2.2.2.2.2)))))))⟩
  · exact ⟨(k.fr b 0 h.lt).trans h.f.1, (k.fr b 1 h.lt).trans h.f.2.1, (k.fr b 2 h.lt).trans h.f.2.2.1, (k.fr b 3 h.lt).trans h.f.2.2.2.1, (k.fr b 4 h.lt).trans h.f.2.2.2.2.1, (k.fr b 5 h.lt).trans h.f.2.2.2.2.2⟩
  · exact Nat.lt_of_lt_of_le h.lt k.mv.size
  · exact k.mv.mono fun k _ s => by obtain ⟨j, s, _⟩ := s; exact s
/-- The same with a box beside. -/
def AZ (nb : NB) (key : El → Int) (w : World) (D0 : Nat → Prop) (q : Nat) (n : Nat) (J : List El → (Nat → Prop) → World → Prop) (s rest : List El) (b : Nat) (v : El) (W : World) : Prop :=
  ∃ D E B, (Qu nb key W q E B rest n ∧ J s D W ∧ (∀ k, E k → w.heap.size ≤ k ∧ ¬ D k) ∧ (∀ k, B k → ¬ D k) ∧ Mv D0 w W ∧ Gr D0 w D) ∧ Bv W b v ∧ w.heap.size ≤ b ∧ ¬ D b ∧ ¬ E b ∧ ¬ B b
theorem AZ.as {nb : NB} {key : El → Int} {w : World} {D0 : Nat → Prop} {q n : Nat} {J : List El → (Nat → Prop) → World → Prop} {s rest : List El} {b : Nat} {v : El} {W : World} (h : AZ nb key w D0 q n J s rest b v W) : AS nb key w D0 q n J s rest W := by
  obtain ⟨D, E, B, h, _⟩ := h
  exact ⟨D, E, B, h⟩
theorem AZ.bv {nb : NB} {key : El → Int} {w : World} {D0 : Nat → Prop} {q n : Nat} {J : List El → (Nat → Prop) → World → Prop} {s rest : List El} {b : Nat} {v : El} {W : World} (h : AZ nb key w D0 q n J s rest b v W) : Bv W b v := by
  obtain ⟨D, E, B, _, h, _⟩ := h
  exact h
theorem AS.box {nb : NB} {key : El → Int} {w : World} {D0 : Nat → Prop} {q n : Nat} {J : List El → (Nat → Prop) → World → Prop} (tJ : Ter w.heap.size J) {s rest : List El} {W : World} (h : AS nb key w D0 q n J s rest W) (x : El) : ∃ V, W.alloc (.cells #[vc0 x, vc1 x, vc2 x, vc3 x, vc4 x, vc5 x] 61) = V ∧ AZ nb key w D0 q n J s rest W.heap.size x V := by
  obtain ⟨D, E, B, u, j, h1, h2, h3, h4⟩ := h
  have hb : Below W.heap.size W (W.alloc (.cells #[vc0 x, vc1 x, vc2 x, vc3 x, vc4 x, vc5 x] 61)) := (Below.refl _ _).alloc (Nat.le_refl _) _
  have lD := tJ.low _ _ _ j
  have lE := u.lt
  exact ⟨_, rfl, D, E, B, ⟨u.mv (D := fun _ => False) (Mv.below hb) (fun _ _ h => h) (fun _ _ h => h), tJ.keep _ _ _ _ j (Mv.below hb), h1, h2, h3.trans' (Mv.below hb), h4⟩, Bv.new W x, h3.size, fun d => by have := lD _ d; omega, fun d => by have := lE.1 _ d; omega, fun d => by have := lE.2 _ d; omega⟩
theorem AZ.put {nb : NB} {key : El → Int} {w : World} {D0 : Nat → Prop} {q n : Nat} {J : List El → (Nat → Prop) → World → Prop} (tJ : Ter w.heap.size J) {s rest : List El} {b : Nat} {v : El} {W : World} (h : AZ nb key w D0 q n J s rest b v W) (x : El) : ∃ V, ((((((W.setCell ⟨b, 0, none⟩ (vc0 x)).setCell ⟨b, 1, none⟩ (vc1 x)).setCell ⟨b, 2, none⟩ (vc2 x)).setCell ⟨b, 3, none⟩ (vc3 x)).setCell ⟨b, 4, none⟩ (vc4 x)).setCell ⟨b, 5, none⟩ (vc5 x)) = V ∧ AZ nb key w D0 q n J s rest b x V := by
  obtain ⟨D, E, B, ⟨u, j, h1, h2, h3, h4⟩, hv, lo, nD, nE, nB⟩ := h
  obtain ⟨V, e, hv', m⟩ := hv.put x
  exact ⟨V, e, D, E, B, ⟨u.mv m (fun k hk e => nE (e ▸ hk)) (fun k hk e => nB (e ▸ hk)), tJ.keep _ _ _ _ j (m.mono fun k _ e => ⟨fun d => nD (e ▸ d), by omega⟩), h1, h2, h3.trans (E' := fun k => k = b) (fun k e => .inr (by omega)) m, h4⟩, hv', lo, nD, nE, nB⟩
theorem AZ.pop {nb : NB} {key : El → Int} (hB : Bf nb key) {w : World} {D0 : Nat → Prop} {q n : Nat} {J : List El → (Nat → Prop) → World → Prop} (tJ : Ter w.heap.size J) {s : List El} {x : El} {rest : List El} {b : Nat} {v : El} {W : World} (h : AZ nb key w D0 q n J s (x :: rest) b v W) :
    Calls Tryz.prog 28 #[qp q] W fun e V => e = .returned (.tuple #[ev x, .int .i64 0]) ∧ AZ nb key w D0 q n J s rest b v V := by
  obtain ⟨D, E, B, ⟨u, j, h1, h2, h3, h4⟩, hv, lo, nD, nE, nB⟩ := h
  refine (pop_some hB u).mono ?_
  rintro e V ⟨rfl, E', B', u', m, g, gb⟩
  have lD := tJ.low _ _ _ j
  have szW := h3.size
  have lv := hv.lt
  refine ⟨rfl, D, E', B', ⟨u', tJ.keep _ _ _ _ j (m.mono fun k _ e => ⟨(h1 k e).2, (h1 k e).1⟩), fun k hk => ?_, fun k hk => ?_, h3.trans (E' := E) (fun k hk => .inr (h1 k hk).1) m, h4⟩, hv.mv m nE, lo, nD, fun hk => ?_, fun hk => ?_⟩
  · rcases g k hk with s | s
    · exact h1 k s
    · exact ⟨by omega, fun d => by have := lD k d; omega⟩
  · rcases gb k hk with s | s
    · exact h2 k s
    · exact fun d => by have := lD k d; omega
  · rcases g b hk with s | s
    · exact nE s
    · omega
  · rcases gb b hk with s | s
    · exact nB s
    · omega
theorem AZ.popn {nb : NB} {key : El → Int} {w : World} {D0 : Nat → Prop} {q n : Nat} {J : List El → (Nat → Prop) → World → Prop} (tJ : Ter w.heap.size J) {s : List El} {b : Nat} {v : El} {W : World} (h : AZ nb key w D0 q n J s [] b v W) :
    Calls Tryz.prog 28 #[qp q] W fun e V => e = .returned (.tuple #[.agg #[.int .i64 0, .int .i64 0, .int .i64 0, .string ⟨#[]⟩, .string ⟨#[]⟩, .int .i64 0], .int .i64 130]) ∧ AZ nb key w D0 q n J s [] b v V := by
  obtain ⟨D, E, B, ⟨u, j, h1, h2, h3, h4⟩, hv, lo, nD, nE, nB⟩ := h
  refine (pop_none u).mono ?_
  rintro e V ⟨rfl, hb⟩
  exact ⟨rfl, D, E, B, ⟨u.mv (D := fun _ => False) (Mv.below hb) (fun _ _ h => h) (fun _ _ h => h), tJ.keep _ _ _ _ j (Mv.below hb), h1, h2, h3.trans' (Mv.below hb), h4⟩, hv.mv (D := fun _ => False) (Mv.below hb) (fun h => h), lo, nD, nE, nB⟩
theorem AS.popn {nb : NB} {key : El → Int} {w : World} {D0 : Nat → Prop} {q n : Nat} {J : List El → (Nat → Prop) → World → Prop} (tJ : Ter w.heap.size J) {s : List El} {W : World} (h : AS nb key w D0 q n J s [] W) :
    Calls Tryz.prog 28 #[qp q] W fun e V => e = .returned (.tuple #[.agg #[.int .i64 0, .int .i64 0, .int .i64 0, .string ⟨#[]⟩, .string ⟨#[]⟩, .int .i64 0], .int .i64 130]) ∧ AS nb key w D0 q n J s [] V := by
  obtain ⟨D, E, B, u, j, h1, h2, h3, h4⟩ := h
  refine (pop_none u).mono ?_
  rintro e V ⟨rfl, hb⟩
  exact ⟨rfl, D, E, B, u.mv (D := fun _ => False) (Mv.below hb) (fun _ _ h => h) (fun _ _ h => h), tJ.keep _ _ _ _ j (Mv.below hb), h1, h2, h3.trans' (Mv.below hb), h4⟩
theorem AZ.take {nb : NB} {key : El → Int} {w : World} {D0 : Nat → Prop} {q n : Nat} {J : List El → (Nat → Prop) → World → Prop} {Jx : (Nat → Prop) → World → Prop} {f : Nat} {caps : Array Value} (hT : Tak f caps J Jx) {x : El} {rest : List El} {b : Nat} {v : El} {W : World} (h : AZ nb key w D0 q n J (x :: rest) rest b v W) :
    Calls Tryz.prog f (#[ev x] ++ caps) W fun e V => (e = .returned (.bool true) ∧ AZ nb key w D0 q n J rest rest b v V) ∨ (e = .returned (.bool false) ∧ AE w D0 J Jx V) := by
  obtain ⟨D, E, B, ⟨u, j, h1, h2, h3, h4⟩, hv, lo, nD, nE, nB⟩ := h
  refine (hT x rest D W j).mono ?_
  rintro e V ⟨m, (⟨rfl, D', g, j'⟩ | ⟨rfl, D', g, j'⟩)⟩
  · obtain ⟨lE, lB⟩ := u.lt
    have lv := hv.lt
    refine .inl ⟨rfl, D', E, B, ⟨u.mv m (fun k hk => (h1 k hk).2) h2, j', fun k hk => ⟨(h1 k hk).1, fun d => ?_⟩, fun k hk d => ?_, h3.trans h4 m, h4.trans h3.size g⟩, hv.mv m nD, lo, fun d => ?_, nE, nB⟩
    · rcases g k d with s | s
      · exact (h1 k hk).2 s
      · have := lE k hk; omega
    · rcases g k d with s | s
      · exact h2 k hk s
      · have := lB k hk; omega
    · rcases g b d with s | s
      · exact nD s
      · omega
  · exact .inr ⟨rfl, h3.trans h4 m, D', h4.trans h3.size g, .inr j'⟩
set_option maxRecDepth 100000 in
set_option maxHeartbeats 4000000 in
theorem all_run {nb : NB} {key : El → Int} (hB : Bf nb key) {w : World} {q bl : Nat} {E B : Nat → Prop} {L : List El} {n : Nat} (h : Qu nb key w q E B L n) (hbl : w.cell? ⟨bl, 0, none⟩ = some (qp q)) {f : Nat} {caps : Array Value} (eg : ∀ args w, (callFunc f args).run Tryz.prog w = .ok (.enter f args) w) {J : List El → (Nat → Prop) → World → Prop} {Jx : (Nat → Prop) → World → Prop} (tJ : Ter w.heap.size J) (hT : Tak f caps J Jx) {D : Nat → Prop} (h0 : J L D w) (hD : ∀ k, B k → ¬ D k) :
    Calls Tryz.prog 74 #[.func (.func f) #[] caps, .pointer (some ⟨bl, 0, none⟩)] w fun e V => e = .returned (.tuple #[]) ∧ AE w D J Jx V := by
  have hBz : Bf nb.z key := ⟨hB.fv, hB.eg, hB.ca⟩
  have hTw : Hid (Calls Tryz.prog 75 #[qp q] w fun e V => ∃ q', e = .returned (qp q') ∧ AS nb.z key w D q' n J L L V) := by
    refine (twin_any hB.fv h).mono ?_
    rintro e V ⟨q', E', rfl, u, hE, hb⟩
    have lD := tJ.low _ _ _ h0
    exact ⟨q', rfl, D, E', B, u, tJ.keep _ _ _ _ h0 (Mv.below hb), fun k hk => ⟨hE k hk, fun d => by have := lD k d; have := hE k hk; omega⟩, hD, Mv.below hb, fun _ h => .inl h⟩
  have hPn : Hid (∀ q' s W, AS nb.z key w D q' n J s [] W → _) := fun q' s W hA => AS.popn tJ hA
  have hPs : Hid (∀ q' s x rest W, AS nb.z key w D q' n J s (x :: rest) W → _) := fun q' s x rest W hA => AS.pop hBz tJ hA
  have hXn : Hid (∀ q' s b v W, AZ nb.z key w D q' n J s [] b v W → _) := fun q' s b v W hA => AZ.popn tJ hA
  have hXs : Hid (∀ q' s x rest b v W, AZ nb.z key w D q' n J s (x :: rest) b v W → _) := fun q' s x rest b v W hA => AZ.pop hBz tJ hA
  have hTk : Hid (∀ q' x rest b v W, AZ nb.z key w D q' n J (x :: rest) rest b v W → _) := fun q' x rest b v W hA => AZ.take hT hA
  have hBx : Hid (∀ q' s rest W, AS nb.z key w D q' n J s rest W → ∀ x, _) := fun q' s rest W hA x => AS.box tJ hA x
  have hPt : Hid (∀ q' s rest b v W, AZ nb.z key w D q' n J s rest b v W → ∀ x, _) := fun q' s rest b v W hA x => AZ.put tJ hA x
  have hEnd : Hid (∀ q' W, AS nb.z key w D q' n J [] [] W → AE w D J Jx W) := fun q' W hA => by
    obtain ⟨D', _, _, _, j, _, _, m, g⟩ := hA
    exact ⟨m, D', g, .inl j⟩
  clear h hB hBz tJ hT h0 hD
  unfold qp at *
  go_enter Tryz.func74, Tryz.ntmps74
  go_wp2_with fail
  refine hTw.out.mono ?_
  rintro e W1 ⟨q', rfl, hA⟩
  have hAH := hidP hA
  clear hA hTw
  cases L with
  | nil =>
    have hP := hidP (hPn.out q' _ W1 hAH.out)
    go_wp2_with fail
    refine hP.out.mono ?_
    rintro e W2 ⟨rfl, hA2⟩
    obtain ⟨V2, hV2, hX2⟩ := hBx.out q' _ _ W2 hA2 (Wt.zero)
    obtain ⟨b2, hb2⟩ : ∃ b2, W2.heap.size = b2 := ⟨_, rfl⟩
    have hX2H := hidP hX2
    clear hP hA2 hX2 hAH
    change W2.alloc (.cells #[.int .i64 0, .int .i64 0, .int .i64 0, .string ⟨#[]⟩, .string ⟨#[]⟩, .int .i64 0] 61) = V2 at hV2
    have hV2H := hidP hV2
    clear hV2
    go_wp2_with fail
    go_loopw [4, 5] (fun a b wr => a = .pointer (some ⟨b2, 0, none⟩) ∧ b = .int .i64 130 ∧ Hid (wr = V2)) (fun _ _ _ => 0)
    case atStart => exact ⟨rfl, rfl, hV2H⟩
    case round =>
      obtain ⟨rfl, rfl, hw⟩ := hrel
      obtain rfl := hw.out
      have fin := hidP (hEnd.out q' _ hX2H.out.as)
      go_wp2_with fail
      go_end0
      exact ⟨rfl, fin.out⟩
  | cons x L =>
    have hP := hidP (hPs.out q' _ x L W1 hAH.out)
    clear hAH
    go_wp2_with fail
    refine hP.out.mono ?_
    rintro e W2 ⟨rfl, hA⟩
    obtain ⟨V2, hV2, hX2⟩ := hBx.out q' _ _ W2 hA x
    obtain ⟨b2, hb2⟩ : ∃ b2, W2.heap.size = b2 := ⟨_, rfl⟩
    rw [hb2] at hX2
    have hX2H := hidP hX2
    clear hP hA hX2
    go_wp2_with (rw [hV2])
    go_loopg [4, 5] (L.length + 1) (fun k s4 s5 wr => (∃ x rest b, s4 = .pointer (some ⟨b, 0, none⟩) ∧ s5 = .int .i64 0 ∧ rest.length + 1 = k ∧ Hid (AZ nb.z key w D q' n J (x :: rest) rest b x wr)) ∨ (∃ b, s4 = .pointer (some ⟨b, 0, none⟩) ∧ s5 = .int .i64 130 ∧ Hid (AS nb.z key w D q' n J [] [] wr)))
    case atStart => exact .inl ⟨x, L, b2, rfl, rfl, rfl, hX2H⟩
    case round =>
      clear hb2 hV2 hX2H
      rcases hrel with ⟨y, rest, b, rfl, rfl, hk, hA⟩ | ⟨b, rfl, rfl, hA⟩
      · have hT := hidP (hTk.out q' y rest b y wr hA.out)
        obtain ⟨yc, _, _⟩ := hA.out.bv
        have hkH := hidP hk
        clear hA hk
        go_wp2_with fail
        refine hT.out.mono ?_
        rintro e W3 (⟨rfl, hA3⟩ | ⟨rfl, hE⟩)
        · obtain ⟨yc3, _, _⟩ := hA3.bv
          obtain ⟨V3, hV3, hX3⟩ := hBx.out q' _ _ W3 hA3.as y
          obtain ⟨b3, hb3⟩ : ∃ b3, W3.heap.size = b3 := ⟨_, rfl⟩
          rw [hb3] at hX3
          clear hT hA3 yc
          cases rest with
          | nil =>
            have hP := hidP (hXn.out q' _ b3 y V3 hX3)
            clear hX3
            go_wp2_with (rw [hV3])
            refine hP.out.mono ?_
            rintro e W4 ⟨rfl, hA4⟩
            obtain ⟨V5, hV5, hX5⟩ := hPt.out q' _ _ b3 y W4 hA4 (Wt.zero)
            obtain ⟨yc4, yf4, _⟩ := hA4.bv
            have hX5H := hidP hX5
            change ((((((W4.setCell ⟨b3, 0, none⟩ (.int .i64 0)).setCell ⟨b3, 1, none⟩ (.int .i64 0)).setCell ⟨b3, 2, none⟩ (.int .i64 0)).setCell ⟨b3, 3, none⟩ (.string ⟨#[]⟩)).setCell ⟨b3, 4, none⟩ (.string ⟨#[]⟩)).setCell ⟨b3, 5, none⟩ (.int .i64 0)) = V5 at hV5
            clear hP hA4 hX5 yc3 hV3
            go_wp2_with (rw [hV5])
            go_roundg 0
            case measure => have := hkH.out; simp at this; omega
            case rel => exact .inr ⟨b3, rfl, rfl, hidP hX5H.out.as⟩
          | cons z R =>
            have hP := hidP (hXs.out q' _ z R b3 y V3 hX3)
            clear hX3
            go_wp2_with (rw [hV3])
            refine hP.out.mono ?_
            rintro e W4 ⟨rfl, hA4⟩
            obtain ⟨V5, hV5, hX5⟩ := hPt.out q' _ _ b3 y W4 hA4 z
            obtain ⟨yc4, yf4, _⟩ := hA4.bv
            have hX5H := hidP hX5
            clear hP hA4 hX5 yc3 hV3
            go_wp2_with (rw [hV5])
            go_roundg (R.length + 1)
            case measure => have := hkH.out; simp at this; omega
            case rel => exact .inl ⟨z, R, b3, rfl, rfl, rfl, hX5H⟩
        · have hEH := hidP hE
          clear hT hE
          go_wp2_with fail
          refine bodyPost_ret (results_none rfl _ _ _) rfl ?_
          exact ⟨rfl, hEH.out⟩
      · have fin := hidP (hEnd.out q' _ hA.out)
        go_wp2_with fail
        go_end0
        exact ⟨rfl, fin.out⟩
end Go.Proofs.YtdcidlgmnnaahaaGreat.Qw
