/- Peek. -/
import Derived.Test.YteimalemecgomaaGreatQtQB
namespace Go.Proofs.YteimalemecgomaaGreat.Qt
open Go.RowKit Go.Shelf Go.Lib
attribute [local go_sem] Oper.semAt_some
set_option maxRecDepth 100000 in
set_option maxHeartbeats 1000000 in
theorem peek_none {nb : Nat} {key : El → Int} {w : World} {q : Nat} {E B : Nat → Prop} {n : Nat} (h : Qu nb key w q E B [] n) :
    Calls Tryz.prog 11 #[qp q] w fun e V => e = .returned (.tuple #[.agg #[.int .i64 0, .int .i64 0], .bool false]) ∧ Below w.heap.size w V := by
  obtain ⟨w0, hw0⟩ : ∃ w0, w.alloc (.cells #[.int .i64 0, .int .i64 0] 27) = w0 := ⟨_, rfl⟩
  have bw0 : Below w.heap.size w w0 := by rw [← hw0]; exact (Below.refl _ _).alloc (Nat.le_refl _) _
  have hz0 : Bz w0 w.heap.size := by rw [← hw0]; exact Bz.new w
  obtain ⟨bz, hbx⟩ : ∃ bz, w.heap.size = bz := ⟨_, rfl⟩
  obtain ⟨w5, hw5⟩ : ∃ w5, w0.alloc (.cells #[.int .i64 0, .int .i64 0] 27) = w5 := ⟨_, rfl⟩
  have bw5 : Below w0.heap.size w0 w5 := by rw [← hw5]; exact (Below.refl _ _).alloc (Nat.le_refl _) _
  have hz5 : Bz w5 w0.heap.size := by rw [← hw5]; exact Bz.new w0
  obtain ⟨b5, hb5⟩ : ∃ b5, w0.heap.size = b5 := ⟨_, rfl⟩
  rw [hbx] at hz0
  rw [hb5] at hz5
  have hz1 : Bz w5 bz := hz0.mv (D := fun _ => False) (Mv.below bw5) (fun h => h)
  have hfin : ∃ V, (((w5.setCell ⟨bz, 0, none⟩ (.int .i64 0)).setCell ⟨bz, 1, none⟩ (.int .i64 0))) = V ∧ (V.cell? ⟨bz, 0, none⟩ = some (.int .i64 0) ∧ V.cell? ⟨bz, 1, none⟩ = some (.int .i64 0)) ∧ Mv (fun k => k = bz) w5 V := hz1.put (0, 0)
  obtain ⟨w6, hw6, w6c, w6m⟩ := hfin
  have hlast : Below w.heap.size w w6 := bmv (bw0.trans (bw5.mono bw0.size)) (Nat.le_refl _) w6m (fun k e => by omega)
  obtain ⟨v, xs, F, L', a1, a2, a3, _⟩ := h.mv (D := fun _ => False) (Mv.below bw0) (fun _ _ h => h) (fun _ _ h => h)
  obtain ⟨z0c, z0f, z0l⟩ := hz0
  obtain ⟨z1c, z1f, z1l⟩ := hz1
  obtain ⟨z5c, _, _⟩ := hz5
  obtain rfl : L' = [] := List.map_eq_nil_iff.1 a3
  obtain rfl := a2.nilL
  obtain rfl : xs = [] := List.eq_nil_of_length_eq_zero a1.rf.len
  obtain ⟨pv, cv, hv⟩ := a1.sv.shape
  have c1 := a1.c1
  rw [hv] at c1
  have c1' : w0.cell? ⟨q, 1, none⟩ = some (.slice pv 0 cv) := c1
  clear a1 a2 a3 hv c1
  unfold qp
  go_enter Tryz.func11, Tryz.ntmps11
  go_wp2_with (first | rw [hw0] | rw [hw5] | rw [hw6])
  refine bodyPost_ret (v := .tuple #[.agg #[.int .i64 0, .int .i64 0], .bool false]) (by simp [results, Tryz.results11, go_sem, w6c]) rfl ⟨rfl, hlast⟩
set_option maxRecDepth 100000 in
set_option maxHeartbeats 1000000 in
theorem peek_some {nb : Nat} {key : El → Int} {w : World} {q : Nat} {E B : Nat → Prop} {x : El} {L : List El} {n : Nat} (h : Qu nb key w q E B (x :: L) n) :
    Calls Tryz.prog 11 #[qp q] w fun e V => e = .returned (.tuple #[ev x, .bool true]) ∧ Below w.heap.size w V := by
  obtain ⟨w0, hw0⟩ : ∃ w0, w.alloc (.cells #[.int .i64 0, .int .i64 0] 27) = w0 := ⟨_, rfl⟩
  have bw0 : Below w.heap.size w w0 := by rw [← hw0]; exact (Below.refl _ _).alloc (Nat.le_refl _) _
  have hz0 : Bz w0 w.heap.size := by rw [← hw0]; exact Bz.new w
  obtain ⟨bz, hbz⟩ : ∃ bz, w.heap.size = bz := ⟨_, rfl⟩
  rw [hbz] at hz0
  obtain ⟨w7, hw7, c7, m7⟩ := hz0.put x
  have hlast : Below w.heap.size w w7 := bmv bw0 (Nat.le_refl _) m7 (fun k e => by omega)
  have hlastH := hidP hlast
  clear hlast m7
  obtain ⟨v, xs, F, L', a1, a2, a3, a4, a5, a6⟩ := h.mv (D := fun _ => False) (Mv.below bw0) (fun _ _ h => h) (fun _ _ h => h)
  clear h bw0
  obtain ⟨z0c, z0f, z0l⟩ := hz0
  cases F with
  | nil =>
    have := a2.empty
    rw [this] at a3; cases a3
  | cons y F =>
    obtain ⟨L2, rfl, _⟩ := a2.head
    injection a3 with ex eL
    have ex' : y.v = x := ex
    obtain ⟨g, o, c, rfl, hrs⟩ := a1.slice (by simp)
    cases xs with
    | nil => exact a1.rf.elim
    | cons r xs =>
      have hrx : r.v = x := a1.rf.1.1.trans ex'
      have u0 := (hrs.ra.at (j := 0) rfl).1
      rw [show o + 0 * 4 = o by omega, hrx] at u0
      have qc := a1.c1
      have hlen := a1.len
      obtain ⟨nn, hnn⟩ : ∃ nn, (r :: xs).length = nn := ⟨_, rfl⟩
      rw [hnn] at qc hlen
      have hn5 : (0 : Int) < (nn : Int) := by rw [← hnn, List.length_cons]; omega
      have hn3 : ¬ nn = 0 := by omega
      have hn4 : ((nn : Int) == 0) = false := by simp; omega
      clear a1 a2 a4 a5 a6 hrs ex eL ex' hrx hnn
      unfold qp slv at *
      go_enter Tryz.func11, Tryz.ntmps11
      go_wp2_with (first | rw [hw0] | rw [hw7])
      refine bodyPost_ret (v := .tuple #[ev x, .bool true]) (by simp [results, Tryz.results11, go_sem, c7]) rfl ⟨rfl, hlastH.out⟩
end Go.Proofs.YteimalemecgomaaGreat.Qt
