/- slices.Values of connections, as a row; port's Waiting. -/
import Derived.Test.YtppbdamlhcmlcaaPX
namespace Go.Proofs.Ytppbdamlhcmlcaa
open Go.RowKit Go.Shelf Go.Lib
attribute [local go_sem] Oper.semAt_some
def encP (x : Pr) : Array Value := #[.agg #[.int .i64 x.1, .string x.2]]
set_option maxRecDepth 100000 in
set_option maxHeartbeats 2000000 in
theorem values_row (l : List Pr) (b : Nat) (v : Value) (E : Nat → Prop) (W : World) (cv : W.cell? ⟨b, 0, none⟩ = some v) (eb : ¬ E b) (hs : QS W v l) (hE : ∀ k, nb v = some k → ¬ E k) (hl : l.length ≤ 1000000000) :
    Row Try.prog 44 #[.pointer (some ⟨b, 0, none⟩)] encP l E W := by
  intro u J Jx E1 V m g hJ hJx hY h0
  have d1 := m.cell (a := ⟨b, 0, none⟩) eb cv
  have f1 : ¬ E1 b := g.free (cell_lt cv) eb
  have hs1 := hs.mv m hE
  have hE1 : ∀ k, nb v = some k → ¬ E1 k := fun k hk => g.free (hs.lt hk) (hE k hk)
  obtain ⟨a, cap, rfl⟩ := hs1.shape
  obtain ⟨n, hn⟩ : ∃ n, l.length = n := ⟨_, rfl⟩
  rw [hn] at d1 hs1 hl hE1
  have hN : Hid (l.length = n) := hn
  clear hn hs cv hE
  refine (callsIn_wide (n := 5)).1 ?_
  refine callsIn_of_wp Try.func44 rfl trivial ?_ rfl
  simp only [Try.ntmps44, List.size_toArray, List.length_cons, List.length_nil, Nat.reduceAdd, Nat.reduceSub, Array.replicate_succ, Array.replicate_zero, List.push_toArray, List.append_toArray, List.nil_append, List.cons_append]
  gi_wp2
  gi_loopw [7] (fun i wr => ∃ (k : Nat) (E2 : Nat → Prop), k ≤ n ∧ i = .int .i64 k ∧ J (l.drop k) E2 wr ∧ Mv E1 V wr ∧ Gr E1 V E2) (fun i _ => n - (intOf i).toNat)
  case atStart => exact ⟨0, E1, by omega, rfl, h0, Mv.refl _ _, Gr.refl _ _⟩
  case round =>
    obtain ⟨k, E2, k0, rfl, hj, hm, hg⟩ := hrel
    have d3 := hm.cell (a := ⟨b, 0, none⟩) f1 d1
    by_cases hlt : k < n
    · have hltI : (k : Int) < (n : Int) := by omega
      obtain ⟨x, hx⟩ : ∃ x, l[k]? = some x := ⟨_, List.getElem?_eq_getElem (by rw [hN.out]; omega)⟩
      have hdr : l.drop k = x :: l.drop (k + 1) := by
        obtain ⟨h1, h2⟩ := List.getElem?_eq_some_iff.1 hx
        rw [List.drop_eq_getElem_cons h1, h2]
      rw [hdr] at hj
      have hsw := hs1.mv hm hE1
      rcases hsw with ⟨_, e0⟩ | ⟨gb, o, cp, hsl, hgl, _, _, hcel, _⟩
      · rw [e0] at hx; cases hx
      injection hsl with e1 e2 e3
      subst e1 e3
      clear e2
      have p0 : wr.cell? ⟨gb, o + k * 2, none⟩ = some (.int .i64 x.1) := by have := hcel _ _ (flat_at l k x hx).1; rwa [show 2 * k = k * 2 by omega] at this
      have p1 : wr.cell? ⟨gb, o + k * 2 + 1, none⟩ = some (.string x.2) := by have := hcel _ _ (flat_at l k x hx).2; rwa [show o + (2 * k + 1) = o + k * 2 + 1 by omega] at this
      obtain ⟨W2, hW2⟩ : ∃ W2, wr.alloc (.cells #[.int .i64 x.1, .string x.2] 41) = W2 := ⟨_, rfl⟩
      have m2 : ∀ F : Nat → Prop, Mv F wr W2 := fun F => by rw [← hW2]; exact Mv.alloc _ _ _
      have q0 : W2.cell? ⟨wr.heap.size, 0, none⟩ = some (.int .i64 x.1) := by rw [← hW2]; exact cell_at rfl rfl
      have q1 : W2.cell? ⟨wr.heap.size, 1, none⟩ = some (.string x.2) := by rw [← hW2]; exact cell_at rfl rfl
      have hj2 := hJ.keep _ _ _ _ hj (m2 _)
      obtain ⟨fn, tmps, assign, body, hy, hR⟩ := hY x _ E2 W2 hj2
      dsimp only [encP] at hy
      have hsz := (m2 (fun _ => False)).size
      clear hx hs1 hcel hj hj2 hdr hE1
      gi_wp2_with (rw [hW2])
      refine (wide_round' hR).mono ?_
      rintro e W3 ⟨m3, (⟨rfl, E3, g3, hj3⟩ | ⟨rfl, E3, g3, hj3⟩)⟩
      · gi_wp2
        exact ⟨⟨k + 1, E3, by omega, by push_cast; rfl, hj3, (hm.trans' (m2 _)).trans hg m3, hg.trans (Nat.le_trans hm.size hsz) g3⟩, by simp [intOf]; omega⟩
      · gi_wp2
        refine bodyPost_ret (results_none rfl _ _ _) rfl ?_
        exact ⟨⟨_, rfl⟩, (hm.trans' (m2 _)).trans hg m3, .inr ⟨E3, hg.trans (Nat.le_trans hm.size hsz) g3, hj3⟩⟩
    · obtain rfl : k = n := by omega
      have hnil : l.drop k = [] := List.drop_eq_nil_of_le (by rw [hN.out]; omega)
      rw [hnil] at hj
      gi_wp2
      go_end0
      exact ⟨⟨_, rfl⟩, hm, .inl ⟨E2, hg, hj⟩⟩
end Go.Proofs.Ytppbdamlhcmlcaa
