/- The contract of package span's Least, over SpanLeast's own function. -/
import Derived.Test.YtlnfapkpehhafaaDoorL1
import Derived.BigQuiet
import Derived.Deep.QuietTactic
namespace Go.Proofs.YtlnfapkpehhafaaDoor
open Go.RowKit Go.Shelf
attribute [local go_sem] Oper.semAt_some
/-- How a round's body is left: off its end. -/
def endsIn (R : World → Prop) : Exit → Act → World → Prop
  | .normal, _, W => R W
  | _, _, _ => False
/-- THE STATEMENT 'for n := range l' IN Least, l SpanLeast's own function: the record and the block of deferred calls are laid; each round keeps St. -/
theorem range_own {g : Operand} {ps : Array Tmp} {assign body : Code} {Q : Exit → Act → World → Prop} {ac : Act} {n : Nat} (w W0 : World) (bl bg : Nat) (a : Option Addr) (b o len cap : Nat) (x : Nat → Int)
    (hs : Src w bl bg a b o len cap x) (hbg : bg < w.heap.size) (hlen : len ≤ 200) (hz : W0.heap.size = w.heap.size + 2)
    (cL : W0.cell? ⟨w.heap.size, 0, none⟩ = some (.int .i64 0)) (fL : W0.frozen? ⟨w.heap.size, 0, none⟩ = false) (cF : W0.cell? ⟨w.heap.size + 1, 0, none⟩ = some (.bool false)) (fF : W0.frozen? ⟨w.heap.size + 1, 0, none⟩ = false)
    (cG : W0.cell? ⟨bg, 0, none⟩ = some (.int .i64 0)) (fG : W0.frozen? ⟨bg, 0, none⟩ = false) (gr : w.grownBy W0 (some bg))
    (hg : ac.eval g = .func (.func 19) #[] #[.pointer (some ⟨bl, 0, none⟩), .pointer (some ⟨bg, 0, none⟩)]) (hps : ps.size = 1) (a₁ : Int → Act)
    (hassign : ∀ (l : Nat) (v : Int) (W : World) (K : Act → World → Prop), K (a₁ v) W → assign.wpIn (Fence.wide.inRound l) (n - 1 - 1) Tryd.prog (Exit.then K (fun _ _ _ => False)) { tmps := (ps.zip #[.int .i64 v]).foldl (fun t (p, v) => t.setIfInBounds p v) ac.tmps, defers := [] } W)
    (hbody : ∀ (l i : Nat) (rec : Loop) (W : World), i < len → St w bg rec (mn x i) (decide (0 < i)) (i + 1) W → body.wpIn (Fence.wide.inRound l) (n - 1 - 1) Tryd.prog (endsIn fun W' => St w bg rec (mn x (i + 1)) (decide (0 < i + 1)) (i + 1) W') (a₁ (x i)) W)
    (hdone : ∀ (rec : Loop) (W : World), St w bg rec (mn x len) (decide (0 < len)) len W → Q .normal { ac with defers := { target := .collected (w.heap.size + 2), args := #[] } :: ac.defers } W) :
    (Code.rangeFunc g ps assign body).wpIn Fence.wide n Tryd.prog Q ac W0 := by
  refine wpIn_rangeFunc ?_
  intro fn hfn
  have hro : Fence.wide.round = none := rfl
  rw [hro]
  obtain ⟨rc, hrc⟩ : ∃ rc : LoopState → Loop, rc = fun st => { state := st, pending := none, fn, tmps := ac.tmps, params := ps, assign, body, defers := w.heap.size + 2 } := ⟨_, rfl⟩
  have hE := run_enterLoop_outer (P := Tryd.prog) (w := W0) fn ac.tmps ps assign body
  rw [hz] at hE
  obtain ⟨W1, hW1⟩ : ∃ W1, (W0.alloc (.deferred (some []))).alloc (.loop (rc .ready)) = W1 := ⟨_, rfl⟩
  have hst0 : St w bg (rc .ready) 0 false 0 W1 := by
    rw [← hW1]
    have b1 : ∀ (k : Nat), k < W0.heap.size → ((W0.alloc (.deferred (some []))).alloc (.loop (rc .ready))).heap[k]? = W0.heap[k]? := fun k hk =>
      (Below.heap_alloc _ _ k (by simp; omega)).trans (Below.heap_alloc _ _ k hk)
    refine ⟨?_, ?_, ?_, ?_, ?_, ?_, ?_, ?_, ?_⟩
    · have := World.alloc_heap_new (W0.alloc (.deferred (some []))) (.loop (rc .ready))
      rwa [World.size_alloc, hz] at this
    · have := World.alloc_heap_new W0 (.deferred (some []))
      rw [hz] at this
      exact (Below.heap_alloc _ _ _ (by simp; omega)).trans this
    · exact (World.cell?_of_block (b1 _ (by simp; omega))).trans cL
    · exact (World.frozen?_of_block (b1 _ (by simp; omega))).trans fL
    · exact (World.cell?_of_block (b1 _ (by simp; omega))).trans cF
    · exact (World.frozen?_of_block (b1 _ (by simp; omega))).trans fF
    · exact (World.cell?_of_block (b1 _ (by simp; omega))).trans cG
    · exact (World.frozen?_of_block (b1 _ (by simp; omega))).trans fG
    · exact ⟨gr.os, gr.tape, gr.output, by simp; omega, fun k hk hne => (b1 k (by omega)).trans (gr.block k hk hne)⟩
  refine ⟨w.heap.size + 3, [{ target := .collected (w.heap.size + 2), args := #[] }], W1, { target := .fn (.func 19) #[.pointer (some ⟨bl, 0, none⟩), .pointer (some ⟨bg, 0, none⟩)], args := #[.func (.yield (w.heap.size + 3)) #[] #[]] }, W1, 19,
    #[.func (.yield (w.heap.size + 3)) #[] #[], .pointer (some ⟨bl, 0, none⟩), .pointer (some ⟨bg, 0, none⟩)], W1, ?_, ?_, fun _ _ => trivial, ?_, fun h => (by cases h), ?_⟩
  · rw [← hW1, hrc]; exact hE
  · simp only [resolve, hg]
    simp [go_sem]
  · simp [invoke, go_sem]
  · refine (iter_in (n - 1) w bl bg a b o len cap x (rc .ready) hs hbg hlen ?_ W1 hst0).mono ?_
    · intro i W hi hst
      have hy := run_yield (P := Tryd.prog) (args := #[.int .i64 (x i)]) hst.lp (by rw [hrc]; simp [hps])
      rw [hrc] at hy
      refine ⟨fn, _, assign, body, hy, roundIn_of_wpIn hfn (hassign _ (x i) W _ ⟨_, run_beginRound hst.lp (by rw [hrc]), ?_⟩)⟩
      have hst2 := hst.putL hbg { rc .ready with state := .busy }
      refine wpIn_mono (hbody _ i _ _ hi hst2) ?_
      rintro e a3 W3 hp
      cases e with
      | normal =>
        have hp' : St w bg { rc .ready with state := .busy } (mn x (i + 1)) (decide (0 < i + 1)) (i + 1) W3 := hp
        have hend := run_endRound (P := Tryd.prog) none hp'.lp
        have hfin := hp'.putL hbg (rc .ready)
        refine ⟨_, _, hend, rfl, ?_⟩
        rw [hrc] at hfin ⊢
        exact hfin
      | ret => exact hp.elim
      | exit id => exact hp.elim
      | goto t => exact hp.elim
      | panic ch => exact hp.elim
      | outgrown => exact hp.elim
    · rintro e W2 ⟨⟨v, rfl⟩, hst⟩
      have hend := run_endLoop (P := Tryd.prog) hst.lp (by rw [hrc]; simp)
      have hpend : (rc .ready).pending = none := by rw [hrc]
      rw [hpend] at hend
      refine ⟨none, _, hend, ?_⟩
      exact hdone _ _ (hst.putL hbg _)
theorem hide2 {p : Prop} (h : p) : Hid p := h
theorem mn_less (x : Nat → Int) (i : Nat) (h : i = 0 ∨ x i < mn x i) : mn x (i + 1) = x i := by
  unfold mn
  by_cases h0 : i = 0
  · rw [if_pos h0, h0]
  · rw [if_neg h0, if_pos (by omega)]
theorem mn_same (x : Nat → Int) (i : Nat) (h0 : 0 < i) (h : ¬ x i < mn x i) : mn x (i + 1) = mn x i := by
  show (if i = 0 then x 0 else if x i < mn x i then x i else mn x i) = mn x i
  rw [if_neg (by omega), if_neg h]
set_option maxRecDepth 100000 in
set_option maxHeartbeats 2000000 in
theorem least_in (n : Nat) (w : World) (bl bg : Nat) (a : Option Addr) (b o len cap : Nat) (x : Nat → Int) (hs : Src w bl bg a b o len cap x) (hbg : bg < w.heap.size) (hlen : len ≤ 200)
    (hc : w.cell? ⟨bg, 0, none⟩ = some (.int .i64 0)) (hf : w.frozen? ⟨bg, 0, none⟩ = false) :
    CallsIn Fence.wide n Tryd.prog 18 #[.func (.func 19) #[] #[.pointer (some ⟨bl, 0, none⟩), .pointer (some ⟨bg, 0, none⟩)]] w fun e W' => e = .returned (.tuple #[.int .i64 (mn x len), .bool (decide (0 < len))]) ∧ W'.cell? ⟨bg, 0, none⟩ = some (.int .i64 len) ∧ w.grownBy W' (some bg) := by
  refine callsIn_of_wp_marks Tryd.func18 rfl trivial ?_ rfl
  simp only [Tryd.ntmps18, List.size_toArray, List.length_cons, List.length_nil, Nat.reduceAdd, Nat.reduceSub, Array.replicate_succ, Array.replicate_zero, List.push_toArray, List.append_toArray, List.nil_append, List.cons_append]
  gi_wp2
  refine range_own w _ bl bg a b o len cap x hs hbg hlen (by simp) ?_ ?_ ?_ ?_ ?_ ?_ ?_ rfl rfl
    (fun v => { tmps := #[.func (.func 19) #[] #[.pointer (some ⟨bl, 0, none⟩), .pointer (some ⟨bg, 0, none⟩)], undef, .int .i64 0, .bool false, .pointer (some ⟨w.heap.size, 0, none⟩), .pointer (some ⟨w.heap.size + 1, 0, none⟩), .int .i64 v, .func (.func 19) #[] #[.pointer (some ⟨bl, 0, none⟩), .pointer (some ⟨bg, 0, none⟩)], .int .i64 v, undef, undef, undef, undef, undef, undef, undef, undef, undef, undef], defers := [] }) ?assign ?body ?done
  case assign =>
    intro l v W K hK
    gi_wp2
    exact hK
  case body =>
    intro l i rec W hi hst
    have c1 := hst.cL
    have c2 := hst.cF
    have f1 := hst.fL
    have f2 := hst.fF
    by_cases h0 : i = 0
    · subst h0
      have hfin := hst.setLF hbg (x 0)
      have e1 : mn x (0 + 1) = x 0 := mn_less x 0 (.inl rfl)
      have HE := hide2 e1
      clear e1
      have c2' : W.cell? ⟨w.heap.size + 1, 0, none⟩ = some (.bool false) := c2
      clear c2
      gi_wp2
      show St _ _ _ _ _ _ _
      rw [HE.out]
      exact hfin
    · have c2' : W.cell? ⟨w.heap.size + 1, 0, none⟩ = some (.bool true) := by rw [c2]; simp; omega
      have d1 : decide (0 < i) = true := by simp; omega
      have d2 : decide (0 < i + 1) = true := by simp
      clear c2
      by_cases hx : x i < mn x i
      · have hfin := hst.setLF hbg (x i)
        have HE := hide2 (mn_less x i (.inr hx))
        gi_wp2
        show St _ _ _ _ _ _ _
        rw [HE.out, d2]
        exact hfin
      · have HE := hide2 (mn_same x i (by omega) hx)
        have hst2 := hst
        rw [d1] at hst2
        gi_wp2
        show St _ _ _ _ _ _ _
        rw [HE.out]
        exact hst2
  case done =>
    intro rec W hst
    have c1 := hst.cL
    have c2 := hst.cF
    gi_wp2
    gi_region
    all_goals gi_wp2
    all_goals refine ⟨by simp, .inl ⟨_, _, rfl, run_takeDeferred hst.df, ?_⟩⟩
    all_goals exact ⟨_, results_tmp2 rfl _ _ _, rfl, (putObj_cell (by simp; omega)).trans hst.cG, grown_put (W := W.drew) ⟨hst.gr.os, hst.gr.tape, hst.gr.output, hst.gr.size, hst.gr.block⟩ (by omega)⟩
  · rw [World.cell?_alloc_lt _ _ _ (by simp)]; simp
  · rw [World.frozen?_alloc_old _ _ _ (by simp)]; simp
  · simp
  · have h := World.frozen?_alloc_new (w.alloc (.cells #[.int .i64 0] 2)) #[.bool false] 4 0
    rw [World.size_alloc] at h
    exact h
  · rw [World.cell?_alloc_lt _ _ _ (by simp; omega), World.cell?_alloc_lt _ _ _ (by simp; omega)]; exact hc
  · rw [World.frozen?_alloc_old _ _ _ (by simp; omega), World.frozen?_alloc_old _ _ _ (by simp; omega)]; exact hf
  · exact (World.grownBy_alloc w _ _).trans (World.grownBy_alloc _ _ _)
end Go.Proofs.YtlnfapkpehhafaaDoor
