/- Peek. -/
import Derived.Test.YteimalemecgomaaGreatQiQB
namespace Go.Proofs.YteimalemecgomaaGreat.Qi
open Go.RowKit Go.Shelf Go.Lib
attribute [local go_sem] Oper.semAt_some
set_option maxRecDepth 100000 in
set_option maxHeartbeats 1000000 in
theorem peek_none {nb : Nat} {key : El → Int} {w : World} {q : Nat} {E B : Nat → Prop} {n : Nat} (h : Qu nb key w q E B [] n) :
    Calls Tryz.prog 19 #[qp q] w fun e V => e = .returned (.tuple #[.int .i64 0, .bool false]) ∧ V = w := by
  obtain ⟨v, xs, F, L', a1, a2, a3, _⟩ := h
  obtain rfl : L' = [] := List.map_eq_nil_iff.1 a3
  obtain rfl := a2.nilL
  obtain rfl : xs = [] := List.eq_nil_of_length_eq_zero a1.rf.len
  obtain ⟨pv, cv, hv⟩ := a1.sv.shape
  have c1 := a1.c1
  rw [hv] at c1
  have c1' : w.cell? ⟨q, 1, none⟩ = some (.slice pv 0 cv) := c1
  clear a1 a2 a3 hv c1
  unfold qp
  go_enter Tryz.func19, Tryz.ntmps19
  go_wp2_with fail
  refine bodyPost_ret (v := .tuple #[.int .i64 0, .bool false]) (by simp [results, Tryz.results19, go_sem]) rfl ⟨rfl, rfl⟩
set_option maxRecDepth 100000 in
set_option maxHeartbeats 1000000 in
theorem peek_some {nb : Nat} {key : El → Int} {w : World} {q : Nat} {E B : Nat → Prop} {x : El} {L : List El} {n : Nat} (h : Qu nb key w q E B (x :: L) n) :
    Calls Tryz.prog 19 #[qp q] w fun e V => e = .returned (.tuple #[ev x, .bool true]) ∧ V = w := by
  obtain ⟨v, xs, F, L', a1, a2, a3, a4, a5, a6⟩ := h
  cases F with
  | nil =>
    have := a2.empty
    rw [this] at a3; cases a3
  | cons y F =>
    obtain ⟨L2, rfl, _⟩ := a2.head
    injection a3 with ex eL
    have ex' : y.v = x := ex
    obtain ⟨g, o, c, rfl, hrs⟩ := a1.slice (by simp)
    cases xs with
    | nil => exact a1.rf.elim
    | cons r xs =>
      have hrx : r.v = x := a1.rf.1.1.trans ex'
      have u0 := (hrs.ra.at (j := 0) rfl).1
      rw [show o + 0 * 3 = o by omega, hrx] at u0
      have qc := a1.c1
      have hlen := a1.len
      obtain ⟨nn, hnn⟩ : ∃ nn, (r :: xs).length = nn := ⟨_, rfl⟩
      rw [hnn] at qc hlen
      have hn5 : (0 : Int) < (nn : Int) := by rw [← hnn, List.length_cons]; omega
      have hn3 : ¬ nn = 0 := by omega
      have hn4 : ((nn : Int) == 0) = false := by simp; omega
      clear a1 a2 a4 a5 a6 hrs ex eL ex' hrx hnn
      unfold qp slv at *
      go_enter Tryz.func19, Tryz.ntmps19
      go_wp2_with fail
      refine bodyPost_ret (v := .tuple #[ev x, .bool true]) (by simp [results, Tryz.results19, go_sem]) rfl ⟨rfl, rfl⟩
end Go.Proofs.YteimalemecgomaaGreat.Qi
