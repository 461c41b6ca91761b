import Derived.Test.YtdcidlgmnnaahaaGreatBbc
import Derived.Test.YtdcidlgmnnaahaaGreatBam
import Derived.Test.YtdcidlgmnnaahaaGreatBay
/- LoopPlays: the document's Next. -/
namespace Go.Proofs.YtdcidlgmnnaahaaGreat
open Go.RowKit Go.Shelf Go.Lib
attribute [local go_sem] Oper.semAt_some
theorem five {A : World} {N : Nat} {u0 u1 u2 u3 u4 : Value} (c0 : A.cell? ⟨N, 0, none⟩ = some u0) (c1 : A.cell? ⟨N, 1, none⟩ = some u1) (c2 : A.cell? ⟨N, 2, none⟩ = some u2) (c3 : A.cell? ⟨N, 3, none⟩ = some u3) (c4 : A.cell? ⟨N, 4, none⟩ = some u4) (v0 v1 v2 v3 v4 : Value) {V : World} (hV : (((((A.setCell ⟨N, 0, none⟩ v0).setCell ⟨N, 1, none⟩ v1).setCell ⟨N, 2, none⟩ v2).setCell ⟨N, 3, none⟩ v3).setCell ⟨N, 4, none⟩ v4) = V) : (V.cell? ⟨N, 0, none⟩ = some v0 ∧ V.cell? ⟨N, 1, none⟩ = some v1 ∧ V.cell? ⟨N, 2, none⟩ = some v2 ∧ V.cell? ⟨N, 3, none⟩ = some v3 ∧ V.cell? ⟨N, 4, none⟩ = some v4) ∧ Mv (fun k => k = N) A V := by
  subst hV
  refine ⟨⟨(World.cell?_setCell_other _ _ _ _ (by simp)).trans ((World.cell?_setCell_other _ _ _ _ (by simp)).trans ((World.cell?_setCell_other _ _ _ _ (by simp)).trans ((World.cell?_setCell_other _ _ _ _ (by simp)).trans (World.cell?_setCell_same _ _ _ (c0))))), (World.cell?_setCell_other _ _ _ _ (by simp)).trans ((World.cell?_setCell_other _ _ _ _ (by simp)).trans ((World.cell?_setCell_other _ _ _ _ (by simp)).trans (World.cell?_setCell_same _ _ _ ((World.cell?_setCell_other _ _ _ _ (by simp)).trans (c1))))), (World.cell?_setCell_other _ _ _ _ (by simp)).trans ((World.cell?_setCell_other _ _ _ _ (by simp)).trans (World.cell?_setCell_same _ _ _ ((World.cell?_setCell_other _ _ _ _ (by simp)).trans ((World.cell?_setCell_other _ _ _ _ (by simp)).trans (c2))))), (World.cell?_setCell_other _ _ _ _ (by simp)).trans (World.cell?_setCell_same _ _ _ ((World.cell?_setCell_other _ _ _ _ (by simp)).trans ((World.cell?_setCell_other _ _ _ _ (by simp)).trans ((World.cell?_setCell_other _ _ _ _ (by simp)).trans (c3))))), World.cell?_setCell_same _ _ _ ((World.cell?_setCell_other _ _ _ _ (by simp)).trans ((World.cell?_setCell_other _ _ _ _ (by simp)).trans ((World.cell?_setCell_other _ _ _ _ (by simp)).trans ((World.cell?_setCell_other _ _ _ _ (by simp)).trans (c4)))))⟩, ?_⟩
  have k := Cv.cells A N 0 [v0, v1, v2, v3, v4]
  exact k.mv.mono fun k _ s => by obtain ⟨j, s, _⟩ := s; exact s
set_option maxRecDepth 100000 in
set_option maxHeartbeats 4000000 in
theorem rnext_none {W : World} {rb : Nat} {E : Nat → Prop} {T : List Du} (h : Rl W rb E [] T) :
    Calls Tryz.prog 9 #[.pointer (some ⟨rb, 0, none⟩)] W fun e V => e = .returned (.tuple #[.agg #[.int .i64 0, .int .i64 0, .int .i64 0, .string ⟨#[]⟩, .string ⟨#[]⟩], .bool false]) ∧ Below W.heap.size W V := by
  obtain ⟨ve, vt, c0, c1, f0, f1, sl, st, n0, n1, n2, hE⟩ := h
  obtain ⟨p, c, hv⟩ := sl.shape
  rw [List.length_nil] at hv
  subst hv
  obtain ⟨N, hN⟩ : ∃ N, W.heap.size = N := ⟨_, rfl⟩
  obtain ⟨A, hA⟩ : ∃ A, W.alloc (.cells #[.int .i64 0, .int .i64 0, .int .i64 0, .string ⟨#[]⟩, .string ⟨#[]⟩] 32) = A := ⟨_, rfl⟩
  have bA : Below W.heap.size W A := by rw [← hA]; exact (Below.refl _ _).alloc (Nat.le_refl _) _
  have a0 : A.cell? ⟨N, 0, none⟩ = some (.int .i64 0) := by rw [← hA]; exact cell_at hN rfl
  have a1 : A.cell? ⟨N, 1, none⟩ = some (.int .i64 0) := by rw [← hA]; exact cell_at hN rfl
  have a2 : A.cell? ⟨N, 2, none⟩ = some (.int .i64 0) := by rw [← hA]; exact cell_at hN rfl
  have a3 : A.cell? ⟨N, 3, none⟩ = some (.string ⟨#[]⟩) := by rw [← hA]; exact cell_at hN rfl
  have a4 : A.cell? ⟨N, 4, none⟩ = some (.string ⟨#[]⟩) := by rw [← hA]; exact cell_at hN rfl
  have g : A.frozen? ⟨N, 0, none⟩ = false ∧ A.frozen? ⟨N, 1, none⟩ = false ∧ A.frozen? ⟨N, 2, none⟩ = false ∧ A.frozen? ⟨N, 3, none⟩ = false ∧ A.frozen? ⟨N, 4, none⟩ = false := by rw [← hA]; exact ⟨froz_new hN, froz_new hN, froz_new hN, froz_new hN, froz_new hN⟩
  have r0 : A.cell? ⟨rb, 0, none⟩ = some (.slice p 0 c) := bcell bA (cell_lt c0) c0
  obtain ⟨V, hV⟩ : ∃ V, (((((A.setCell ⟨N, 0, none⟩ (.int .i64 0)).setCell ⟨N, 1, none⟩ (.int .i64 0)).setCell ⟨N, 2, none⟩ (.int .i64 0)).setCell ⟨N, 3, none⟩ (.string ⟨#[]⟩)).setCell ⟨N, 4, none⟩ (.string ⟨#[]⟩)) = V := ⟨_, rfl⟩
  obtain ⟨c7, m⟩ := five a0 a1 a2 a3 a4 _ _ _ _ _ hV
  have fin : Hid (Below W.heap.size W V) := bA.trans (m.toBelow bA.size fun k hk e => by omega)
  clear c0 c1 f0 f1 sl st n0 n1 n2 hE bA m
  go_enter Tryz.func9, Tryz.ntmps9
  go_wp2_with (first | rw [hA] | rw [hV])
  refine bodyPost_ret (v := .tuple #[.agg #[.int .i64 0, .int .i64 0, .int .i64 0, .string ⟨#[]⟩, .string ⟨#[]⟩], .bool false]) (by simp [results, Tryz.results9, go_sem, c7]) rfl ⟨rfl, fin.out⟩
set_option maxRecDepth 100000 in
set_option maxHeartbeats 4000000 in
theorem rnext_some {W : World} {rb : Nat} {E : Nat → Prop} {x : Wt} {L : List Wt} {T : List Du} (h : Rl W rb E (x :: L) T) :
    Calls Tryz.prog 9 #[.pointer (some ⟨rb, 0, none⟩)] W fun e V => e = .returned (.tuple #[.agg #[.int .i64 x.k, .int .i64 x.p, .int .i64 x.s, .string x.u, .string x.x], .bool true]) ∧ Mv E W V ∧ ∃ E', Gr E W E' ∧ Rl V rb E' L T := by
  obtain ⟨ve, vt, c0, c1, f0, f1, sl, st, n0, n1, n2, hE⟩ := h
  obtain ⟨dv, hrun, sd, hnb⟩ := Me.slice_lo sl (k := 1) (by rw [List.length_cons]; omega)
  rcases sl with ⟨_, e⟩ | ⟨g, o, cap, rfl, rs⟩
  · cases e
  obtain ⟨q0, q1, q2, q3, q4⟩ := rs.ra.at (j := 0) (x := x) rfl
  simp only [Nat.zero_mul, Nat.add_zero] at q0 q1 q2 q3 q4
  have hnb1 : dv = .slice none 0 0 ∨ ∃ p l c, dv = .slice p l c := .inr (by obtain ⟨p, c, e⟩ := sd.shape; exact ⟨p, _, c, e⟩)
  obtain ⟨p', l', c', hdv⟩ : ∃ p l c, dv = .slice p l c := by obtain ⟨p, c, e⟩ := sd.shape; exact ⟨p, _, c, e⟩
  subst hdv
  obtain ⟨m, hm⟩ : ∃ m, (x :: L).length = m := ⟨_, rfl⟩
  have hm0 : 0 < m := by rw [← hm, List.length_cons]; omega
  rw [hm] at c0 hrun n0 n2 hE hnb
  have hmI : (0 : Int) < (m : Int) := by omega
  have hne : ¬ (m : Int) = 0 := by omega
  have hneN : ¬ m = 0 := by omega
  obtain ⟨xk, hxk⟩ : ∃ z, x.k = z := ⟨_, rfl⟩
  obtain ⟨xp, hxp⟩ : ∃ z, x.p = z := ⟨_, rfl⟩
  obtain ⟨xs, hxs⟩ : ∃ z, x.s = z := ⟨_, rfl⟩
  obtain ⟨xu, hxu⟩ : ∃ z, x.u = z := ⟨_, rfl⟩
  obtain ⟨xx, hxx⟩ : ∃ z, x.x = z := ⟨_, rfl⟩
  rw [hxk] at q0; rw [hxp] at q1; rw [hxs] at q2; rw [hxu] at q3; rw [hxx] at q4
  rw [hxk, hxp, hxs, hxu, hxx]
  obtain ⟨N, hN⟩ : ∃ N, W.heap.size = N := ⟨_, rfl⟩
  obtain ⟨A, hA⟩ : ∃ A, W.alloc (.cells #[.int .i64 0, .int .i64 0, .int .i64 0, .string ⟨#[]⟩, .string ⟨#[]⟩] 32) = A := ⟨_, rfl⟩
  have bA : Below W.heap.size W A := by rw [← hA]; exact (Below.refl _ _).alloc (Nat.le_refl _) _
  have sA : A.heap.size = N + 1 := by rw [← hA]; simp [hN]
  obtain ⟨B, hB⟩ : ∃ B, A.alloc (.cells #[.int .i64 xk, .int .i64 xp, .int .i64 xs, .string xu, .string xx] 32) = B := ⟨_, rfl⟩
  have bB : Below A.heap.size A B := by rw [← hB]; exact (Below.refl _ _).alloc (Nat.le_refl _) _
  have sB : B.heap.size = N + 2 := by rw [← hB]; simp [sA]
  obtain ⟨C, hC⟩ : ∃ C, B.setCell ⟨rb, 0, none⟩ (.slice p' l' c') = C := ⟨_, rfl⟩
  have lr := cell_lt c0
  simp only at lr
  have lg : g < N := hN ▸ rs.rm.lt
  have bAB : Below W.heap.size W B := bA.trans (bB.mono (by omega))
  have A0 : A.cell? ⟨rb, 0, none⟩ = some (.slice (some ⟨g, o, none⟩) m cap) := bcell bA lr c0
  have B0 : B.cell? ⟨rb, 0, none⟩ = some (.slice (some ⟨g, o, none⟩) m cap) := bcell bAB lr c0
  have B1 : B.frozen? ⟨rb, 0, none⟩ = false := (bfroz bAB lr).trans f0
  have aq0 : A.cell? ⟨g, o, none⟩ = some (.int .i64 xk) := bcell bA (by omega) q0
  have aq1 : A.cell? ⟨g, o + 1, none⟩ = some (.int .i64 xp) := bcell bA (by omega) q1
  have aq2 : A.cell? ⟨g, o + 2, none⟩ = some (.int .i64 xs) := bcell bA (by omega) q2
  have aq3 : A.cell? ⟨g, o + 3, none⟩ = some (.string xu) := bcell bA (by omega) q3
  have aq4 : A.cell? ⟨g, o + 4, none⟩ = some (.string xx) := bcell bA (by omega) q4
  have cv := Cv.one B rb 0 (.slice p' l' c')
  rw [hC] at cv
  have nN : ∀ j i, ¬ (N + i = rb ∧ j = 0) := fun j i s => by have := s.1; omega
  have bz : ∀ j u, #[Value.int .i64 0, .int .i64 0, .int .i64 0, .string ⟨#[]⟩, .string ⟨#[]⟩][j]? = some u → C.cell? ⟨N, j, none⟩ = some u := fun j u hj => cv.cell (fun s => by have := s.1; omega) (bcell bB (by omega) (by rw [← hA]; exact cell_at hN hj))
  have bx : ∀ j u, #[Value.int .i64 xk, .int .i64 xp, .int .i64 xs, .string xu, .string xx][j]? = some u → C.cell? ⟨N + 1, j, none⟩ = some u := fun j u hj => cv.cell (fun s => by have := s.1; omega) (by rw [← hB]; exact cell_at sA hj)
  have fz : ∀ j, C.frozen? ⟨N, j, none⟩ = false := fun j => (cv.fr N j (by omega)).trans ((bfroz bB (by omega)).trans (by rw [← hA]; exact froz_new hN))
  have z0 : C.cell? ⟨N, 0, none⟩ = some (.int .i64 0) := bz 0 _ rfl
  have z1 : C.cell? ⟨N, 1, none⟩ = some (.int .i64 0) := bz 1 _ rfl
  have z2 : C.cell? ⟨N, 2, none⟩ = some (.int .i64 0) := bz 2 _ rfl
  have z3 : C.cell? ⟨N, 3, none⟩ = some (.string ⟨#[]⟩) := bz 3 _ rfl
  have z4 : C.cell? ⟨N, 4, none⟩ = some (.string ⟨#[]⟩) := bz 4 _ rfl
  have y0 : C.cell? ⟨N + 1, 0, none⟩ = some (.int .i64 xk) := bx 0 _ rfl
  have y1 : C.cell? ⟨N + 1, 1, none⟩ = some (.int .i64 xp) := bx 1 _ rfl
  have y2 : C.cell? ⟨N + 1, 2, none⟩ = some (.int .i64 xs) := bx 2 _ rfl
  have y3 : C.cell? ⟨N + 1, 3, none⟩ = some (.string xu) := bx 3 _ rfl
  have y4 : C.cell? ⟨N + 1, 4, none⟩ = some (.string xx) := bx 4 _ rfl
  have g5 : C.frozen? ⟨N, 0, none⟩ = false ∧ C.frozen? ⟨N, 1, none⟩ = false ∧ C.frozen? ⟨N, 2, none⟩ = false ∧ C.frozen? ⟨N, 3, none⟩ = false ∧ C.frozen? ⟨N, 4, none⟩ = false := ⟨fz 0, fz 1, fz 2, fz 3, fz 4⟩
  obtain ⟨V, hV⟩ : ∃ V, (((((C.setCell ⟨N, 0, none⟩ (.int .i64 xk)).setCell ⟨N, 1, none⟩ (.int .i64 xp)).setCell ⟨N, 2, none⟩ (.int .i64 xs)).setCell ⟨N, 3, none⟩ (.string xu)).setCell ⟨N, 4, none⟩ (.string xx)) = V := ⟨_, rfl⟩
  obtain ⟨c7, mV⟩ := five z0 z1 z2 z3 z4 _ _ _ _ _ hV
  have mBC : Mv (fun k => k = rb) B C := cv.mv.mono fun k _ s => by obtain ⟨j, s, _⟩ := s; exact s
  have fin : Hid (Mv E W V ∧ ∃ E', Gr E W E' ∧ Rl V rb E' L T) := by
    have nrN : ¬ rb = N := by omega
    have lrB : rb < B.heap.size := by omega
    have lrC : rb < C.heap.size := by have := mBC.size; omega
    have m1 : Mv (fun k => k = rb) W C := (Mv.below bAB).trans' mBC
    have m2 : Mv (fun k => k = rb) W V := m1.trans (E' := fun k => k = N) (fun k e => .inr (by have e' : k = N := e; omega)) mV
    have sd1 : Me.SV V (.slice p' l' c') L := sd.mv m2 (fun k hk e => by
      have e' : k = rb := e
      rw [e'] at hk
      exact n0 (hnb rb hk))
    have st1 : Md.SV V vt T := st.mv m2 (fun k hk e => n1 (by have e' : k = rb := e; rw [← e']; exact hk))
    refine ⟨m2.mono fun k _ e => (hE k).2 (.inl e), fun k => k = rb ∨ Qd.nbk (.slice p' l' c') = some k ∨ Qd.nbk vt = some k, fun k hk => ?_, .slice p' l' c', vt, mV.cell (a := ⟨rb, 0, none⟩) nrN (by rw [← hC]; exact World.cell?_setCell_same _ _ _ B0), mV.cell (a := ⟨rb, 1, none⟩) nrN (cv.cell (fun s => by have := s.2; omega) (bcell bAB (cell_lt c1) c1)), (mV.froz (a := ⟨rb, 0, none⟩) nrN lrC).trans ((cv.fr rb 0 lrB).trans B1), (mV.froz (a := ⟨rb, 1, none⟩) nrN lrC).trans ((cv.fr rb 1 lrB).trans ((bfroz bAB lr).trans f1)), sd1, st1, fun e => n0 (hnb rb e), n1, fun k hk => n2 k (hnb k hk), fun k => Iff.rfl⟩
    · rcases hk with e | e | e
      · exact .inl ((hE k).2 (.inl e))
      · exact .inl ((hE k).2 (.inr (.inl (hnb k e))))
      · exact .inl ((hE k).2 (.inr (.inr e)))
  have hrun1 : ∀ W, (Instr.slice 27 (.slice (some ⟨g, o, none⟩) m cap) (some (.int .i64 1)) none none).run Tryz.prog W = .ok (.slice p' l' c') W := hrun
  clear hrun c0 c1 f0 f1 sd st n0 n1 n2 hE bA bB bAB cv nN bz bx fz mV mBC rs q0 q1 q2 q3 q4 hnb hnb1 hm hxk hxp hxs hxu hxx lr lg
  go_enter Tryz.func9, Tryz.ntmps9
  go_wp2_with (first | rw [hA] | rw [hB] | rw [hC] | rw [hV])
  refine bodyPost_ret (v := .tuple #[.agg #[.int .i64 xk, .int .i64 xp, .int .i64 xs, .string xu, .string xx], .bool true]) (by simp [results, Tryz.results9, go_sem, c7]) rfl ⟨rfl, fin.out⟩
end Go.Proofs.YtdcidlgmnnaahaaGreat
/- Drop, and what it leaves of an empty queue. -/
namespace Go.Proofs.YtdcidlgmnnaahaaGreat.Qw
open Go.RowKit Go.Shelf Go.Lib
attribute [local go_sem] Oper.semAt_some
set_option maxRecDepth 100000 in
set_option maxHeartbeats 4000000 in
theorem drop_all {nb : NB} {key : El → Int} {w : World} {q : Nat} {E B : Nat → Prop} {L : List El} {n : Nat} (hB : L ≠ [] → Bf nb key) (h : Qu nb key w q E B L n) {mf br : Nat} {rv : Value} {p : El → Bool} (cr : w.cell? ⟨br, 0, none⟩ = some rv) (eg : ∀ args w, (callFunc mf args).run Tryz.prog w = .ok (.enter mf args) w) (hM : ∀ x W, W.cell? ⟨br, 0, none⟩ = some rv → Calls Tryz.prog mf #[ev x, .pointer (some ⟨br, 0, none⟩)] W fun e V => e = .returned (.bool (p x)) ∧ Below W.heap.size W V) :
    Calls Tryz.prog 34 #[qp q, .func (.func mf) #[] #[.pointer (some ⟨br, 0, none⟩)]] w fun e V => e = .returned (.int .i64 ((L.length : Int) - (L.filter fun x => !p x).length)) ∧ Qg nb key w q E B (L.filter fun x => !p x) n V ∧ (L = [] → Below w.heap.size w V) := by
  have hq0 := hidP h
  obtain ⟨v, xs, F, L', a1, a2, a3, a4, a5, a6⟩ := h
  obtain ⟨out, ho, hpm⟩ := Ot.of _ _ _ a1.rf (Nat.le_refl _)
  obtain ⟨bm, hbm⟩ : ∃ bm, w.heap.size = bm := ⟨_, rfl⟩
  obtain ⟨W1, hW1⟩ : ∃ W1, w.alloc (.cells #[.func (.func mf) #[] #[.pointer (some ⟨br, 0, none⟩)]] 77) = W1 := ⟨_, rfl⟩
  have b1 : Below w.heap.size w W1 := by rw [← hW1]; exact (Below.refl _ _).alloc (Nat.le_refl _) _
  have h1s : W1.heap.size = bm + 1 := by rw [← hW1]; simp [hbm]
  obtain ⟨W2, hW2⟩ : ∃ W2, W1.alloc (.cells #[.slice none 0 0] 52) = W2 := ⟨_, rfl⟩
  have b2 : Below W1.heap.size W1 W2 := by rw [← hW2]; exact (Below.refl _ _).alloc (Nat.le_refl _) _
  have h2s : W2.heap.size = bm + 2 := by rw [← hW2]; simp [h1s]
  obtain ⟨W3, hW3⟩ : ∃ W3, W2.alloc (.cells #[qp q] 58) = W3 := ⟨_, rfl⟩
  have b3 : Below W2.heap.size W2 W3 := by rw [← hW3]; exact (Below.refl _ _).alloc (Nat.le_refl _) _
  have h3s : W3.heap.size = bm + 3 := by rw [← hW3]; simp [h2s]
  have b03 : Below w.heap.size w W3 := (b1.trans (b2.mono b1.size)).trans (b3.mono (Nat.le_trans b1.size b2.size))
  have Q3 := a1.below b03
  have c3 : W3.cell? ⟨bm + 2, 0, none⟩ = some (qp q) := by rw [← hW3]; exact cell_at h2s rfl
  have clk : Cl (bm + 1) (.slice none 0 0) W3 := Cl.mv (E := fun _ => False) ⟨by rw [← hW2]; exact cell_at h1s rfl, by rw [← hW2]; exact froz_new h1s⟩ (Mv.below b3) (fun h => h)
  have cm : W3.cell? ⟨bm, 0, none⟩ = some (.func (.func mf) #[] #[.pointer (some ⟨br, 0, none⟩)]) := bcell b3 (by omega) (bcell b2 (by omega) (by rw [← hW1]; exact cell_at hbm rfl))
  have lbr : br < bm := by rw [← hbm]; exact cell_lt cr
  have cr3 : W3.cell? ⟨br, 0, none⟩ = some rv := bcell b03 (by omega) cr
  have hol : out.length = L.length := by
    have := hpm.length_eq
    rw [List.length_map] at this
    rw [this, a2.pm.length_eq, ← a3, List.length_map]
  have ho3 := Ot.mv (F := fun _ => False) (Mv.below b03) (fun _ _ h => h) _ _ ho
  have lq : q < bm := by rw [← hbm]; exact a1.lt
  have hlv : ∀ k, nbk v = some k → k < bm := fun k hk => by rw [← hbm]; exact a1.sv.lt hk
  have row := hidP (trees_row q (bm + 2) v xs out B (fun k => k = bm + 1) W3 c3 Q3.c1 Q3.sv ho3 (by omega) (by omega) (fun k hk e => by have := hlv k hk; omega) (fun k hk e => by have := a1.lo k hk; omega) (fun k hk => by have := a1.lo k hk; omega) (by omega))
  have tI : Ter W3.heap.size (KI p out (bm + 1) bm br (.func (.func mf) #[] #[.pointer (some ⟨br, 0, none⟩)]) rv w) := KI.ter (by omega) (by omega)
  have hI : Hid (KI p out (bm + 1) bm br (.func (.func mf) #[] #[.pointer (some ⟨br, 0, none⟩)]) rv w out (fun k => k = bm + 1) W3) := ⟨.slice none 0 0, [], [], rfl, rfl, (fun _ h => by cases h), (fun k => ⟨.inl, fun h => h.elim id (fun e => by cases e)⟩), clk, .inl ⟨rfl, rfl⟩, (fun e => by cases e), (fun k e => by cases e), cm, cr3⟩
  have hTf : Hid (Calls Tryz.prog 54 #[qp q] W2 fun e V => e = .returned (.func (.func 71) #[] #[.pointer (some ⟨bm + 2, 0, none⟩)]) ∧ V = W3) := by
    have := treesf_any q W2
    rw [hW3, h2s] at this
    exact this
  have hMH := hidP hM
  unfold qp at *
  refine (callsIn_wide (n := 5)).1 ?_
  refine callsIn_of_wp_marks Tryz.func34 rfl trivial ?_ rfl
  simp only [Tryz.ntmps34, List.size_toArray, List.length_cons, List.length_nil, Nat.reduceAdd, Nat.reduceSub, Array.replicate_succ, Array.replicate_zero, List.push_toArray, List.append_toArray, List.nil_append, List.cons_append]
  gi_wp2_with (first | rw [hW1] | rw [hW2])
  refine ⟨trivial, (callsIn_wide.2 hTf.out).mono ?_⟩
  rintro e V ⟨rfl, rfl⟩
  gi_wp2_with fail
  refine loop_out (gf := 71) (lb := #[.pointer (some ⟨bm + 2, 0, none⟩)]) rfl (enters_of Tryz.func71 (by kernel_rfl) rfl) row.out (fun _ => rfl) (KI p out (bm + 1) bm br (.func (.func mf) #[] #[.pointer (some ⟨br, 0, none⟩)]) rv w) AX tI (AX.ter _) hI.out ?round ?done ?stop
  case round =>
    rintro l9 hl9 x rest E2 U hi hm hg hEl hrec
    have hltH : Hid (l9 < U.heap.size) := by obtain ⟨r, hr⟩ := hrec; exact (Array.getElem?_eq_some_iff.1 hr).1
    clear hrec
    simp only [encR, Rec.val]
    gi_wp2_with fail
    refine ⟨⟨Mv.alloc _ _ _, Below.heap_alloc _ _ _ hltH.out⟩, fun U2 tw => ?_⟩
    obtain ⟨hi2, hm2⟩ := tw.go tI hi (Mv.alloc _ _ _) hm (Nat.le_refl _) hl9 hEl
    have bx : ∀ j u, #[vc0 x.v, vc1 x.v, vc2 x.v, vc3 x.v, vc4 x.v, vc5 x.v, Value.int .i64 x.t, ptrV x.p][j]? = some u → U2.cell? ⟨U.heap.size, j, none⟩ = some u := fun j u hj => tw.mv.cell (a := ⟨U.heap.size, j, none⟩) (by have := hltH.out; show ¬ U.heap.size = l9; omega) (cell_at rfl hj)
    have hU2 : Hid (U2.heap.size = U.heap.size + 1) := by show _ = _; have := tw.size; simpa using this
    obtain ⟨kv, kept, done, e1, e2, e3, e4, e5, e6, e7, e8, e9, e10⟩ := hi2
    have x0 : (U2.cell? ⟨U.heap.size, 0, none⟩ = some (vc0 x.v) ∧ U2.cell? ⟨U.heap.size, 1, none⟩ = some (vc1 x.v) ∧ U2.cell? ⟨U.heap.size, 2, none⟩ = some (vc2 x.v) ∧ U2.cell? ⟨U.heap.size, 3, none⟩ = some (vc3 x.v) ∧ U2.cell? ⟨U.heap.size, 4, none⟩ = some (vc4 x.v) ∧ U2.cell? ⟨U.heap.size, 5, none⟩ = some (vc5 x.v)) := ⟨bx 0 _ rfl, bx 1 _ rfl, bx 2 _ rfl, bx 3 _ rfl, bx 4 _ rfl, bx 5 _ rfl⟩
    have hmt := hidP (hMH.out x.v U2 e10)
    gi_wp2_with fail
    refine ⟨trivial, (CallsIn.inRound l9 (callsIn_wide.2 hmt.out)).mono ?_⟩
    rintro e U3 ⟨rfl, hb3⟩
    have m3 : ∀ F, Mv F U2 U3 := fun F => Mv.below hb3
    have lU : U.heap.size < U2.heap.size := by have := hU2.out; omega
    have y0 : (U3.cell? ⟨U.heap.size, 0, none⟩ = some (vc0 x.v) ∧ U3.cell? ⟨U.heap.size, 1, none⟩ = some (vc1 x.v) ∧ U3.cell? ⟨U.heap.size, 2, none⟩ = some (vc2 x.v) ∧ U3.cell? ⟨U.heap.size, 3, none⟩ = some (vc3 x.v) ∧ U3.cell? ⟨U.heap.size, 4, none⟩ = some (vc4 x.v) ∧ U3.cell? ⟨U.heap.size, 5, none⟩ = some (vc5 x.v)) := ⟨bcell hb3 lU (bx 0 _ rfl), bcell hb3 lU (bx 1 _ rfl), bcell hb3 lU (bx 2 _ rfl), bcell hb3 lU (bx 3 _ rfl), bcell hb3 lU (bx 4 _ rfl), bcell hb3 lU (bx 5 _ rfl)⟩
    have y1 := bcell hb3 lU (bx 6 _ rfl)
    have f5 := e5.mv (m3 fun _ => False) (fun h => h)
    have f6 := e6.mv (m3 fun _ => False) (fun _ _ h => h)
    have f9 := (m3 fun _ => False).cell (a := ⟨bm, 0, none⟩) (fun h => h) e9
    have f10 := (m3 fun _ => False).cell (a := ⟨br, 0, none⟩) (fun h => h) e10
    have hsz : w.heap.size ≤ U3.heap.size := by have := hb3.size; have := f5.lt; omega
    cases hp : p x.v with
    | true =>
      have fin : Hid (Mv E2 U2 U3 ∧ ∃ E', Gr E2 U2 E' ∧ KI p out (bm + 1) bm br (.func (.func mf) #[] #[.pointer (some ⟨br, 0, none⟩)]) rv w rest E' U3) := by
        refine ⟨m3 _, E2, Gr.refl _ _, kv, kept, done ++ [x], by rw [List.append_assoc]; exact e1, ?_, e3, e4, f5, f6, e7, e8, f9, f10⟩
        rw [e2, List.map_append, List.filter_append]
        simp [hp]
      clear e1 e2 e3 e4 e5 e6 e7 e8 e9 e10 f5 f6 f9 f10 y0 y1 x0 bx m3 hm2 hi hm tw hmt
      gi_wp2_with fail
      exact fin.out
    | false =>
      obtain ⟨A, hA⟩ : ∃ A, U3.alloc (.cells #[vc0 x.v, vc1 x.v, vc2 x.v, vc3 x.v, vc4 x.v, vc5 x.v, .int .i64 x.t, .pointer none] 94) = A := ⟨_, rfl⟩
      have mA : ∀ F, Mv F U3 A := fun F => by rw [← hA]; exact Mv.alloc _ _ _
      have svA := f6.mv (mA fun _ => False) (fun _ _ h => h)
      have raA : RA A U3.heap.size 0 [⟨x.v, x.t, none⟩] := by
        intro j u hj
        rw [Nat.zero_add, ← hA]
        refine cell_at rfl ?_
        match j, hj with
        | 0, hj => exact hj
        | 1, hj => exact hj
        | 2, hj => exact hj
        | 3, hj => exact hj
        | 4, hj => exact hj
        | 5, hj => exact hj
        | 6, hj => exact hj
        | 7, hj => exact hj
        | j + 8, hj => simp [flat] at hj
      have hkl : kept.length ≤ 200000 := by
        have z := congrArg List.length e2
        rw [List.length_map] at z
        have z2 := List.length_filter_le (fun y : El × Int => !p y.1) (done.map fun x => (x.v, x.t))
        rw [List.length_map] at z2
        have z3 := congrArg List.length e1
        rw [List.length_append] at z3
        omega
      obtain ⟨v', A2, hrun, sv', m2, at2⟩ := svA.append raA (by omega) 1
      obtain ⟨A3, hA3⟩ : ∃ A3, A2.setCell ⟨bm + 1, 0, none⟩ v' = A3 := ⟨_, rfl⟩
      have n2 : ¬ nbk kv = some (bm + 1) := e7
      have cA2 := (f5.mv (mA fun _ => False) (fun h => h)).mv m2 n2
      have clA3 : Cl (bm + 1) v' A3 := by rw [← hA3]; exact cA2.set v'
      have mS : Mv (fun k => k = bm + 1) A2 A3 := by rw [← hA3]; exact Mv.set1 (E := fun k => k = bm + 1) rfl _
      have szA : A.heap.size = U3.heap.size + 1 := by rw [← hA]; simp
      have hnU : bm + 1 < U2.heap.size := e5.lt
      have sz3 := hb3.size
      have n3 : nbk v' ≠ some (bm + 1) := fun e => by
        rcases at2 with q | ⟨k, q, hk⟩
        · exact e7 (q ▸ e)
        · rw [e] at q; injection q with q; omega
      have nb9 : ∀ k, k < w.heap.size ∨ k = bm → ¬ nbk kv = some k ∧ ¬ k = bm + 1 := fun k hk => ⟨fun e => by
        rcases hk with hk | hk
        · have := e8 k e; omega
        · have := e8 k e; omega, by omega⟩
      have fin : Hid (Mv E2 U2 A3 ∧ ∃ E', Gr E2 U2 E' ∧ KI p out (bm + 1) bm br (.func (.func mf) #[] #[.pointer (some ⟨br, 0, none⟩)]) rv w rest E' A3) := by
        refine ⟨(((m3 E2).trans' ((mA E2).trans' (m2.mono fun k _ hk => (e4 k).2 (.inr hk)))).trans' (mS.mono fun k _ hk => (e4 k).2 (.inl hk))), fun k => k = bm + 1 ∨ nbk v' = some k, fun k hk => ?_, v', kept ++ [⟨x.v, x.t, none⟩], done ++ [x], by rw [List.append_assoc]; exact e1, ?_, ?_, fun _ => Iff.rfl, clA3, sv'.mv mS (fun k hk e => n3 (e ▸ hk)), n3, fun k hk => ?_, ?_, ?_⟩
        · rcases hk with hk | hk
          · exact .inl ((e4 k).2 (.inl hk))
          · rcases at2 with q | ⟨k', q, hk'⟩
            · exact .inl ((e4 k).2 (.inr (by rw [← q]; exact hk)))
            · rw [hk] at q; injection q with q; exact .inr (by omega)
        · rw [List.map_append, e2, List.map_append, List.filter_append]
          simp [hp]
        · intro y hy
          rcases List.mem_append.1 hy with hy | hy
          · exact e3 y hy
          · rw [List.mem_singleton.1 hy]
        · rcases at2 with q | ⟨k', q, hk'⟩
          · exact e8 k (by rw [← q]; exact hk)
          · rw [hk] at q; injection q with q; omega
        · exact mS.cell (a := ⟨bm, 0, none⟩) (nb9 bm (.inr rfl)).2 (m2.cell (a := ⟨bm, 0, none⟩) (nb9 bm (.inr rfl)).1 ((mA fun _ => False).cell (a := ⟨bm, 0, none⟩) (fun h => h) f9))
        · exact mS.cell (a := ⟨br, 0, none⟩) (nb9 br (.inl (by omega))).2 (m2.cell (a := ⟨br, 0, none⟩) (nb9 br (.inl (by omega))).1 ((mA fun _ => False).cell (a := ⟨br, 0, none⟩) (fun h => h) f10))
      obtain ⟨pv, cvv, rfl⟩ := f6.shape
      obtain ⟨pv', cv', rfl⟩ := sv'.shape
      have ec := f5.c
      have ef := cA2.f
      have ec2 := cA2.c
      obtain ⟨nd, hnd⟩ : ∃ nd, kept.length = nd := ⟨_, rfl⟩
      obtain ⟨nd', hnd'⟩ : ∃ nd', (kept ++ [(⟨x.v, x.t, none⟩ : Rec)]).length = nd' := ⟨_, rfl⟩
      rw [hnd] at hrun ec ec2
      rw [hnd'] at hrun hA3
      clear sv' m2 at2 e1 e2 e3 e4 e5 e6 e7 e8 e9 e10 f5 f6 n2 clA3 mS n3 svA raA mA hm2 hi hm tw cA2 hnd hnd' hmt bx m3 f9 f10 hkl
      gi_wp2_with (first | rw [hA] | rw [hA3] | (gi_at_builtin; refine wpListIn_append_run rfl _ _ 52 rfl _ _ _ _ rfl rfl hrun ?_))
      exact fin.out
  case done =>
    rintro D E2 U hD hK hnD hm hg ⟨kv, kept, done, e1, e2, e3, e4, e5, e6, e7, e8, e9, e10⟩
    rw [List.append_nil] at e1
    subst e1
    have hk : (kept.map fun x => (x.v, x.t)).Perm (L'.filter fun y => !p y.1) := by rw [e2]; exact (hpm.trans a2.pm).filter _
    have hfl : (L'.filter fun y => !p y.1).map (·.1) = L.filter fun x => !p x := by rw [← a3, List.filter_map]; rfl
    have hkl : kept.length = (L.filter fun x => !p x).length := by
      have z := hk.length_eq
      rw [List.length_map] at z
      rw [z, ← hfl, List.length_map]
    obtain ⟨cn, hcn⟩ : ∃ cn, L.length = cn := ⟨_, rfl⟩
    obtain ⟨kn, hkn⟩ : ∃ kn, kept.length = kn := ⟨_, rfl⟩
    have hle : kn ≤ cn := by rw [← hkn, hkl, ← hcn]; exact List.length_filter_le _ _
    have QU := Q3.mv hm (show ¬ q = bm + 1 by omega) (fun k hk e => by have := hlv k hk; omega) (fun k hk e => by have := a1.lo k hk; omega)
    obtain ⟨pk, ck, hkv⟩ := e6.shape
    rw [hkn] at hkv
    have cq2 : U.drew.cell? ⟨q, 2, none⟩ = some (.int .i64 (cn : Int)) := by have := QU.c2; rw [hcn] at this; exact this
    have ckk : U.drew.cell? ⟨bm + 1, 0, none⟩ = some (.slice pk kn ck) := by rw [← hkv]; exact e5.c
    have hcI : (cn : Int) ≤ 200000 := by omega
    have hleI : (kn : Int) ≤ (cn : Int) := by omega
    have lD : D < U.heap.size := (Array.getElem?_eq_some_iff.1 hK).1
    have bU : Below w.heap.size w U := b03.trans (hm.toBelow b03.size (fun k hk e => by omega))
    by_cases hlt : kn < cn
    · have h0 : (0 : Int) < (cn : Int) - (kn : Int) := by omega
      obtain ⟨U3, hU3⟩ : ∃ U3, ((U.setCell ⟨q, 1, none⟩ (.slice none 0 0)).setCell ⟨q, 2, none⟩ (.int .i64 (kn : Int))).drew.drew = U3 := ⟨_, rfl⟩
      have s1 : (U.setCell ⟨q, 1, none⟩ (.slice none 0 0)).drew.drew.cell? ⟨q, 2, none⟩ = some (.int .i64 (cn : Int)) := (World.cell?_setCell_other U _ _ _ (by simp)).trans cq2
      have s3 : (U.setCell ⟨q, 1, none⟩ (.slice none 0 0)).drew.drew.cell? ⟨bm + 1, 0, none⟩ = some (.slice pk kn ck) := (World.cell?_setCell_other U _ _ _ (by simp)).trans ckk
      have s2 : (U.setCell ⟨q, 1, none⟩ (.slice none 0 0)).drew.drew.frozen? ⟨q, 2, none⟩ = false := ((Cv.one U q 1 (.slice none 0 0)).fr q 2 QU.lt).trans QU.f2
      have cq1 : U.drew.drew.cell? ⟨q, 1, none⟩ = some v := QU.c1
      have cq2' : U.drew.drew.cell? ⟨q, 2, none⟩ = some (.int .i64 (cn : Int)) := cq2
      have ckk' : U.drew.drew.cell? ⟨bm + 1, 0, none⟩ = some (.slice pk kn ck) := ckk
      have fq1 : U.drew.drew.frozen? ⟨q, 1, none⟩ = false := QU.f1
      have fq2 : U.drew.drew.frozen? ⟨q, 2, none⟩ = false := QU.f2
      have k3 : Cv (fun k j => k = q ∧ 1 ≤ j ∧ j < 1 + 2) U.drew.drew U3 := by
        have := Cv.cells U.drew.drew q 1 [.slice none 0 0, .int .i64 (kn : Int)]
        rw [← hU3]; exact this
      have mq : Mv (fun k => k = q) U U3 := ((Mv.drew _ _).trans' (Mv.drew _ _)).trans' (k3.mv.mono fun k _ s => by obtain ⟨j, s, _⟩ := s; exact s)
      have ck3 : U3.cell? ⟨bm + 1, 0, none⟩ = some (.slice pk kn ck) := k3.cell (k := bm + 1) (j := 0) (by omega) ckk'
      have d1 : U3.cell? ⟨q, 1, none⟩ = some (.slice none 0 0) := by rw [← hU3]; exact (World.cell?_setCell_other _ _ _ _ (by simp)).trans (World.cell?_setCell_same _ _ _ cq1)
      have d2 : U3.cell? ⟨q, 2, none⟩ = some (.int .i64 (kn : Int)) := by rw [← hU3]; exact World.cell?_setCell_same _ _ _ ((World.cell?_setCell_other _ _ _ _ (by simp)).trans cq2')
      have lqU : q < U.drew.drew.heap.size := QU.lt
      have nBq : ∀ k, B k → k < bm := fun k hk => by have := a1.lo k hk; omega
      have Qz : Qm nb U3 q B (.slice none 0 0) [] [] (kn : Int) n := ⟨k3.cell (k := q) (j := 0) (by omega) QU.c0, d1, d2, k3.cell (k := q) (j := 3) (by omega) QU.c3, (k3.fr q 1 lqU).trans QU.f1, (k3.fr q 2 lqU).trans QU.f2, (k3.fr q 3 lqU).trans QU.f3, .inl ⟨rfl, rfl⟩, trivial, (fun e => by cases e), (fun k hk => ⟨(QU.nB k hk).1, fun e => by cases e⟩), (fun k hk => by have := nBq k hk; have := mq.size; omega), by simp, (show Xt U.drew.drew q nb.X from QU.xt).cv k3 (fun j hj s => by have := s.2.2; omega) lqU⟩
      have nkq : nbk kv ≠ some q := fun e => by have := e8 q e; omega
      have sv3 := e6.mv mq (fun k hk e => nkq (e ▸ hk))
      have hfr := hidP (free_any (hB (fun e => by rw [e, List.length_nil] at hcn; omega)) Qz (m := 0) (T := nilT kept) Fl.nil (fun _ _ => .inr rfl) (fun x hx => by rw [nilT_k x hx]; trivial) sv3 (RF.nils kept e3) (by omega) nkq (fun k hk => ⟨(fun e => by cases e), fun hk' => by have := e8 k hk; have := nBq k hk'; omega⟩))
      have hEnd : Hid (∀ V4, FP nb key U3 q B (.slice none 0 0) kv [] (nilT kept) (kn : Int) n (.returned (.tuple #[])) V4 → V4.heap[D]? = some (.deferred (some [])) ∧ Qg nb key w q E B (L.filter fun x => !p x) n (V4.putObj D (.deferred none))) := by
        intro V4 hF
        obtain ⟨_, F', ⟨v', xs', B', Q6, m6, g6, at6⟩, hF'⟩ := hF
        have nD : ¬ (D = q ∨ nbk (.slice none 0 0) = some D ∨ nbk kv = some D) := by
          rintro (e | e | e)
          · omega
          · cases e
          · exact hnD ((e4 D).2 (.inr e))
        have lD3 : D < U3.heap.size := by have := mq.size; omega
        have hb4 : V4.heap[D]? = some (.deferred (some [])) := (m6.block D lD3 nD).trans ((mq.block D lD (by omega)).trans hK)
        refine ⟨hb4, ?_⟩
        have hF2 := hF'.resolve_left (fun z => z.1 rfl)
        have hQI := drop_QI a2 hk hF2.2.1 hF2.2.2
        have nv' : ∀ k, nbk v' = some k → U3.heap.size ≤ k := fun k e => by
          rcases at6 with z | ⟨k', z, hk'⟩
          · rw [e] at z; cases z
          · rw [e] at z; injection z with z; omega
        have sz3 := mq.size
        have szU := bU.size
        have mP : Mv (fun k => k = D) V4 (V4.putObj D (.deferred none)) := Mv.put (E := fun k => k = D) rfl _
        refine ⟨fun k => k = q ∨ nbk v' = some k, B', ⟨v', xs', F', _, ?_, hQI, hfl, by rw [← hkl]; omega, a5, fun _ => Iff.rfl⟩, ?_, ?_, ?_⟩
        · have := Q6.mv mP (show ¬ q = D by omega) (fun k hk e => by have := nv' k hk; omega) (fun k hk e => by
            rcases g6 k hk with z | z
            · have := nBq k z; omega
            · omega)
          rw [← hkl, hkn]
          exact this
        · refine (((Mv.below bU).trans (E' := fun k => k = q) (fun k e => .inl ((a6 k).2 (.inl e))) mq).trans (E' := fun k => k = q ∨ nbk (.slice none 0 0) = some k ∨ nbk kv = some k) (fun k hk => ?_) m6).trans (E' := fun k => k = D) (fun k e => .inr (by omega)) mP
          rcases hk with e | e | e
          · exact .inl ((a6 k).2 (.inl e))
          · cases e
          · exact .inr (by have := e8 k e; omega)
        · intro k hk
          rcases hk with e | e
          · exact .inl ((a6 k).2 (.inl e))
          · exact .inr (by have := nv' k e; omega)
        · intro k hk
          exact (g6 k hk).imp id (fun z => by omega)
      rw [hkv] at hfr hEnd
      have hres : (L.filter fun x => !p x).length = kn := by rw [← hkl, hkn]
      clear Qz sv3 mq k3 QU e2 e3 e4 e5 e6 e7 e8 e9 e10 hI row d1 d2 hM
      gi_wp2_with fail
      gi_region
      gi_wp2_with fail
      gi_region
      gi_wp2_with fail
      refine ⟨trivial, (callsIn_wide.2 hfr.out).mono ?_⟩
      rintro e V4 hF4
      obtain rfl := hF4.1
      have fin := hidP (hEnd.out V4 hF4)
      clear hF4 hEnd hfr
      gi_wp2_with fail
      refine ⟨by simp, .inl ⟨_, _, rfl, run_takeDeferred fin.out.1, ?_⟩⟩
      refine ⟨_, by simp [results, Tryz.results34, go_sem]; rfl, ?_⟩
      rw [hres, hcn]
      exact ⟨rfl, fin.out.2, fun e => by rw [e, List.length_nil] at hcn; omega⟩
    · have h0 : ¬ (0 : Int) < (cn : Int) - (kn : Int) := by omega
      have fin : Hid (Qg nb key w q E B (L.filter fun x => !p x) n (U.drew.putObj D (.deferred none)) ∧ (L = [] → Below w.heap.size w (U.drew.putObj D (.deferred none)))) := by
        have ef : (L.filter fun x => !p x) = L := List.filter_sublist.eq_of_length (by rw [← hkl, hkn, hcn]; omega)
        have bf : Below w.heap.size w (U.drew.putObj D (.deferred none)) := bU.drew.trans ((Mv.put (E := fun k => k = D) (W := U.drew) rfl _).toBelow bU.size (fun k hk e => by omega))
        rw [ef]
        exact ⟨⟨E, B, hq0.out.mv (D := fun _ => False) (Mv.below bf) (fun _ _ h => h) (fun _ _ h => h), Mv.below bf, Gr.refl _ _, Gr.refl _ _⟩, fun _ => bf⟩
      have hres : (L.filter fun x => !p x).length = kn := by rw [← hkl, hkn]
      have hKH := hidP (show U.drew.heap[D]? = some (.deferred (some [])) from hK)
      clear QU e2 e3 e4 e5 e6 e7 e8 e9 e10 hI row hK hM
      gi_wp2_with fail
      gi_region
      gi_wp2_with fail
      refine ⟨by simp, .inl ⟨_, _, rfl, run_takeDeferred hKH.out, ?_⟩⟩
      refine ⟨_, by simp [results, Tryz.results34, go_sem]; rfl, ?_⟩
      rw [hres, hcn]
      exact ⟨rfl, fin.out.1, fin.out.2⟩
  case stop =>
    intro D c E2 U hD hK hnD hm hg h
    exact h.elim
end Go.Proofs.YtdcidlgmnnaahaaGreat.Qw
/- Forget: the queue's part. -/
namespace Go.Proofs.YtdcidlgmnnaahaaGreat
open Go.RowKit Go.Shelf Go.Lib
attribute [local go_sem] Oper.semAt_some
theorem TM.len {w : World} {v : Value} {T : List Du} (h : TM w v T) (ty : TypeId) : (Builtin.len_ #[55] ty #[v]).run Tryz.prog w = .ok (.int .i64 T.length) w := by
  rcases h with ⟨rfl, rfl⟩ | ⟨b, rfl, h⟩
  · exact Maps.len_nil Tryz.underlying55 ty
  · exact h.len Tryz.underlying55 ty
theorem dropl_any {w : World} {lb : Nat} {E : Nat → Prop} {L : List Wt} {n : Nat} {T : List Du} (h : Lo w lb E L n T) {br : Nat} {u : ByteArray} (cr : w.cell? ⟨br, 0, none⟩ = some (.string u)) :
    Calls Tryz.prog 34 #[lp lb, .func (.func 35) #[] #[.pointer (some ⟨br, 0, none⟩)]] w fun e V => e = .returned (.int .i64 ((L.length : Int) - (L.filter fun x => !decide (x.u = u)).length)) ∧ Lg w lb E (L.filter fun x => !decide (x.u = u)) n T V ∧ ∀ v, w.cell? ⟨lb, 5, none⟩ = some v → V.cell? ⟨lb, 5, none⟩ = some v ∧ TM V v T := by
  obtain ⟨Eq, B, mv, h1, h2, h3, h4, h5, h6, h7, h8⟩ := h
  have hq := Qu.q h1
  have hB : L ≠ [] → Qw.Bf (nbq n mv) keyW := fun hne => bfq (fun e => by have := hq.2.2.1; have := List.length_pos_iff.2 hne; omega) mv
  refine (Qw.drop_all hB h1 cr (enters_of Tryz.func35 (by kernel_rfl) rfl) (p := fun x => decide (x.u = u)) (fun x W hc => forget2_any x hc)).mono ?_
  rintro e V ⟨rfl, ⟨E', B', u1, m, g, gb⟩, hnil⟩
  have lm : ∀ k, mbk mv = some k → k < w.heap.size := fun k hk => h3.lt hk
  have ne : ∀ k, mbk mv = some k → ¬ Eq k := fun k hk => (h6 k hk).1
  have t' := h3.mv m ne
  refine ⟨rfl, ⟨fun k => E' k ∨ B' k ∨ mbk mv = some k, ⟨E', B', mv, u1, fun e => ?_, t', h4, fun k => Iff.rfl, fun k hk => ⟨fun e => ?_, fun e => ?_⟩, fun y hy => h7 y (List.mem_filter.1 hy).1, h8⟩, m.mono fun k _ e => (h5 k).2 (.inl e), fun k hk => ?_⟩, fun v hv => ?_⟩
  · have hL : L = [] := List.eq_nil_of_length_eq_zero (by have := hq.2.2.1; omega)
    exact (bfroz (hnil hL) (h1.lt.1 lb hq.1)).trans (h2 e)
  · rcases g k e with s | s
    · exact ne k hk s
    · have := lm k hk; omega
  · rcases gb k e with s | s
    · exact (h6 k hk).2 s
    · have := lm k hk; omega
  · rcases hk with e | e | e
    · exact (g k e).imp (fun s => (h5 k).2 (.inl s)) id
    · exact (gb k e).imp (fun s => (h5 k).2 (.inr (.inl s))) id
    · exact .inl ((h5 k).2 (.inr (.inr e)))
  · have e : v = mv := by
      have := (Qu.xt h1).1 5 (by omega)
      rw [hv] at this
      exact Option.some.inj this
    subst e
    exact ⟨(Qu.xt u1).1 5 (by omega), t'⟩
end Go.Proofs.YtdcidlgmnnaahaaGreat
