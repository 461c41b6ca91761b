import Derived.Test.YteimalemecgomaaGreatQiTB
/- Whether one is ahead of another. -/
namespace Go.Proofs.YteimalemecgomaaGreat.Qi
open Go.RowKit Go.Shelf Go.Lib
attribute [local go_sem] Oper.semAt_some
/-- A function that tells whether one's key is less than another's. -/
structure Bf (nb : Nat) (key : El → Int) : Prop where
  eg : ∀ args w, (callFunc nb args).run Tryz.prog w = .ok (.enter nb args) w
  ca : ∀ (a b : El) (w : World), Calls Tryz.prog nb #[ev a, ev b] w fun e w' => e = .returned (.bool (decide (key a < key b))) ∧ Below w.heap.size w w'
def fnV (nb : Nat) : Value := .func (.func nb) #[] #[]
set_option maxRecDepth 100000 in
set_option maxHeartbeats 1000000 in
theorem ahead_any {nb : Nat} {key : El → Int} (hB : Bf nb key) (q : Nat) (a b : El) (w : World) (hq : w.cell? ⟨q, 0, none⟩ = some (fnV nb)) :
    Calls Tryz.prog 92 #[.pointer (some ⟨q, 0, none⟩), ev a, ev b] w fun e w' => e = .returned (.bool (decide (key a < key b))) ∧ Below w.heap.size w w' := by
  have hC := hB.ca a b w
  have eg := hB.eg
  have hne : ∀ w, (binOp .neq 46 (.func (.func nb) #[] #[]) Value.nilFunc).run Tryz.prog w = .ok (.bool true) w := fun w => by first | kernel_rfl | rfl
  unfold fnV at hq
  obtain ⟨va, hva⟩ : ∃ v, ev a = v := ⟨_, rfl⟩
  obtain ⟨vb, hvb⟩ : ∃ v, ev b = v := ⟨_, rfl⟩
  rw [hva, hvb] at hC ⊢
  clear hB hva hvb
  go_enter Tryz.func92, Tryz.ntmps92
  go_wp2_with fail
  refine hC.mono ?_
  rintro e w' ⟨rfl, hb⟩
  go_wp2_with fail
  go_ret
  exact ⟨rfl, hb⟩
end Go.Proofs.YteimalemecgomaaGreat.Qi
/- The row of trees from the end on. -/
namespace Go.Proofs.YteimalemecgomaaGreat.Qi
open Go.RowKit Go.Shelf Go.Lib
attribute [local go_sem] Oper.semAt_some
def encX (p : Nat × Rec) : Array Value := #[.int .i64 p.1, p.2.val]
/-- What is left of the row lies in memory. -/
def LB (g o : Nat) (s : List (Nat × Rec)) (W : World) : Prop := ∀ p ∈ s, W.cell? ⟨g, o + p.1 * 3, none⟩ = some (ev p.2.v) ∧ W.cell? ⟨g, o + p.1 * 3 + 1, none⟩ = some (.int .i64 p.2.t) ∧ W.cell? ⟨g, o + p.1 * 3 + 2, none⟩ = some (ptrV p.2.p)
set_option maxRecDepth 100000 in
set_option maxHeartbeats 2000000 in
theorem back_row (l : List Rec) (b g o cap : Nat) (E : Nat → Prop) (W : World) (cv : W.cell? ⟨b, 0, none⟩ = some (slv g o l.length cap)) (eb : ¬ E b) (hl : l.length ≤ 1000000) :
    RowS Tryz.prog 118 #[.pointer (some ⟨b, 0, none⟩)] encX (fun _ => false) (LB g o) (bk l l.length) E W := by
  intro u J Jx E1 V m gr hJ hJx hL hsk hY h0
  have d1 := m.cell (a := ⟨b, 0, none⟩) eb cv
  have f1 : ¬ E1 b := gr.free (cell_lt cv) eb
  obtain ⟨n, hn⟩ : ∃ n, l.length = n := ⟨_, rfl⟩
  rw [hn] at d1 h0 hl
  have hN : Hid (l.length = n) := hn
  have hLH := hidP hL
  have hYH := hidP hY
  clear hn cv hL hsk hY
  unfold slv at d1
  refine (callsIn_wide (n := 5)).1 ?_
  refine callsIn_of_wp Tryz.func118 rfl trivial ?_ rfl
  simp only [Tryz.ntmps118, List.size_toArray, List.length_cons, List.length_nil, Nat.reduceAdd, Nat.reduceSub, Array.replicate_succ, Array.replicate_zero, List.push_toArray, List.append_toArray, List.nil_append, List.cons_append]
  gi_wp2
  gi_loopw [3] (fun i wr => ∃ (k : Nat) (z : Int) (E2 : Nat → Prop), k ≤ n ∧ z + 1 = k ∧ i = .int .i64 z ∧ J (bk l k) E2 wr ∧ Mv E1 V wr ∧ Gr E1 V E2) (fun i _ => (intOf i + 1).toNat)
  case atStart => exact ⟨n, _, E1, Nat.le_refl _, by omega, rfl, h0, Mv.refl _ _, Gr.refl _ _⟩
  case round =>
    obtain ⟨k, z, E2, k0, hz, rfl, hj, hm, hg⟩ := hrel
    have d3 := hm.cell (a := ⟨b, 0, none⟩) f1 d1
    cases k with
    | succ j =>
      obtain rfl : z = (j : Int) := by omega
      obtain ⟨x, hx⟩ : ∃ x, l[j]? = some x := ⟨_, List.getElem?_eq_getElem (by rw [hN.out]; omega)⟩
      rw [bk_succ hx] at hj
      obtain ⟨p0, p1, p2⟩ := hLH.out _ _ _ hj (j, x) (List.mem_cons_self ..)
      obtain ⟨fn, tmps, assign, body, hy, hR⟩ := hYH.out (j, x) _ E2 wr rfl hj
      dsimp only [encX, Rec.val] at hy p0 p1 p2
      have hjn : (j : Int) < (n : Int) := by omega
      clear hz hx
      gi_wp2
      refine (wide_round' hR).mono ?_
      rintro e W3 ⟨m3, (⟨rfl, E3, g3, hj3⟩ | ⟨rfl, E3, g3, hj3⟩)⟩
      · gi_wp2
        exact ⟨⟨j, _, E3, by omega, by omega, rfl, hj3, hm.trans hg m3, hg.trans hm.size g3⟩, by simp [intOf]⟩
      · gi_wp2
        refine bodyPost_ret (results_none rfl _ _ _) rfl ?_
        exact ⟨⟨_, rfl⟩, hm.trans hg m3, .inr ⟨E3, hg.trans hm.size g3, hj3⟩⟩
    | zero =>
      obtain rfl : z = -1 := by omega
      gi_wp2
      go_end0
      exact ⟨⟨_, rfl⟩, hm, .inl ⟨E2, hg, hj⟩⟩
set_option maxRecDepth 100000 in
set_option maxHeartbeats 1000000 in
theorem back_any (g o n c : Nat) (w : World) : Calls Tryz.prog 91 #[slv g o n c] w fun e w' => e = .returned (.func (.func 118) #[] #[.pointer (some ⟨w.heap.size, 0, none⟩)]) ∧ w' = w.alloc (.cells #[slv g o n c] 70) := by
  unfold slv
  go_enter Tryz.func91, Tryz.ntmps91
  go_wp2_with fail
  go_ret
  exact ⟨rfl, rfl⟩
end Go.Proofs.YteimalemecgomaaGreat.Qi
