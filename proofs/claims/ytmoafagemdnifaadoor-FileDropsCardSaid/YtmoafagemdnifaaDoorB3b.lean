/- The row of package line's whole lines: how a round ends. -/
import Derived.Test.YtmoafagemdnifaaDoorB3
namespace Go.Proofs.YtmoafagemdnifaaDoor
open Go.RowKit Go.Shelf Lin
theorem WI.on {J : List (Nat × L) → (Nat → Prop) → World → Prop} {B bb nb gb : Nat} {v v' : Value} {n b : Nat} {x : L} {E0 E2 : Nat → Prop} {U2 U : World} {rest : List L}
    (hE : ∀ k, E2 k ↔ (E0 k ∨ OT bb nb gb v k)) (mo : Mv (OT bb nb gb v) U2 U) (hot : ∀ k, OT bb nb gb v' k → OT bb nb gb v k ∨ U2.heap.size ≤ k) (o : Own3 B bb nb gb v' n b x E0 U) (hj : J (whl n b x rest) E0 U)
    (h1 : n + rest.length ≤ 5000) (h2 : x.length + tot rest ≤ 5000) (h3 : b ≤ n) : Mv E2 U2 U ∧ ∃ E', Gr E2 U2 E' ∧ WI J B bb nb gb rest E' U := by
  refine ⟨mo.mono (fun k _ hk => (hE k).2 (.inr hk)), fun k => E0 k ∨ OT bb nb gb v' k, fun k hk => ?_, E0, v', n, b, x, ⟨fun _ => Iff.rfl, h1, h2, h3⟩, hj, o⟩
  rcases hk with hk | hk
  · exact .inl ((hE k).2 (.inl hk))
  · rcases hot k hk with q | q
    · exact .inl ((hE k).2 (.inr q))
    · exact .inr q
/-- What lies when a line has been taken. -/
structure Taken (bb nb gb : Nat) (v6 : Value) (n d : Nat) (E2 E3 : Nat → Prop) (U2 U8 : World) : Prop where
  at0 : ∃ p, U8.heap[bb]? = some (.cells #[p, v6] 77 (0, 0))
  nm : Nm nb n U8
  gm : Nm gb d U8
  mv : Mv E2 U2 U8
  gr : Gr E2 U2 E3
  nE : ∀ k, (k = bb ∨ k = nb ∨ k = gb) → ¬ E3 k
  iE : ∀ k, (k = bb ∨ k = nb ∨ k = gb) → E2 k
theorem taken {B bb nb gb : Nat} {v v6 : Value} {n d : Nat} {x : L} {E0 E2 E3 : Nat → Prop} {U2 D6 U7 U8 : World} (hE : ∀ k, E2 k ↔ (E0 k ∨ OT bb nb gb v k)) (mo : Mv (OT bb nb gb v) U2 D6) (hot : ∀ k, OT bb nb gb v6 k → OT bb nb gb v k ∨ U2.heap.size ≤ k) (o : Own3 B bb nb gb v6 n d x E0 D6)
    (m7 : Mv (Ow bb v6) D6 U7) (hb7 : U7.heap[bb]? = D6.heap[bb]?) (m8 : Mv E0 U7 U8) (g3 : Gr E0 U7 E3) : Taken bb nb gb v6 n d E2 E3 U2 U8 := by
  have n7 := o.nm.mv m7 o.on
  have g7 := o.gm.mv m7 o.og
  obtain ⟨p, _, hp⟩ := o.bld.at0
  have hp7 := hb7.trans hp
  have nb0 : ¬ E0 bb := fun h => o.dis _ h (.inl (.inl rfl))
  have nn0 : ¬ E0 nb := fun h => o.dis _ h (.inr (.inl rfl))
  have ng0 : ¬ E0 gb := fun h => o.dis _ h (.inr (.inr rfl))
  have hlt := lt_of_heap hp7
  refine ⟨⟨p, (m8.block bb hlt nb0).trans hp7⟩, n7.mv m8 nn0, g7.mv m8 ng0, ?_, ?_, ?_, ?_⟩
  · have a1 : Mv E2 U2 D6 := mo.mono (fun k _ hk => (hE k).2 (.inr hk))
    have a2 : Mv E2 U2 U7 := a1.trans (E' := fun k => Ow bb v6 k) (fun k hk => by
      rcases hot k (.inl hk) with q | q
      · exact .inl ((hE k).2 (.inr q))
      · exact .inr q) m7
    exact a2.trans (E' := E0) (fun k hk => .inl ((hE k).2 (.inl hk))) m8
  · intro k hk
    rcases g3 k hk with q | q
    · exact .inl ((hE k).2 (.inl q))
    · exact .inr (Nat.le_trans (Nat.le_trans mo.size m7.size) q)
  · rintro k (rfl | rfl | rfl) hk
    · rcases g3 _ hk with q | q
      · exact nb0 q
      · omega
    · rcases g3 _ hk with q | q
      · exact nn0 q
      · have := n7.lt; omega
    · rcases g3 _ hk with q | q
      · exact ng0 q
      · have := g7.lt; omega
  · rintro k (rfl | rfl | rfl)
    · exact (hE _).2 (.inr (.inl (.inl rfl)))
    · exact (hE _).2 (.inr (.inr (.inl rfl)))
    · exact (hE _).2 (.inr (.inr (.inr rfl)))
theorem Taken.reset {bb nb gb : Nat} {v6 : Value} {n d : Nat} {E2 E3 : Nat → Prop} {U2 U8 U9 : World} (t : Taken bb nb gb v6 n d E2 E3 U2 U8) (hg : bb ≠ gb) (m9 : Mv (fun k => k = bb) U8 U9) : Nm gb d U9 := t.gm.mv m9 (fun e => hg e.symm)
theorem Taken.done {J : List (Nat × L) → (Nat → Prop) → World → Prop} {B B' bb nb gb : Nat} {v6 : Value} {n d : Nat} {E2 E3 : Nat → Prop} {U2 U8 U9 : World} {rest : List L} (t : Taken bb nb gb v6 n d E2 E3 U2 U8) (hJ : Ter B' J) (hB' : B' ≤ B) (hbn : bb ≠ nb) (hbg : bb ≠ gb) (hng : nb ≠ gb) (hB : B ≤ bb ∧ B ≤ nb ∧ B ≤ gb)
    (hbl : Bld bb (.slice none 0 0) [] U9) (m9 : Mv (fun k => k = bb) U8 U9) (hj : J (whl n 0 [] rest) E3 U8) (h1 : n + rest.length ≤ 5000) (h2 : tot rest ≤ 5000) :
    Mv E2 U2 (U9.setCell ⟨gb, 0, none⟩ (.int .i64 0)) ∧ ∃ E', Gr E2 U2 E' ∧ WI J B bb nb gb rest E' (U9.setCell ⟨gb, 0, none⟩ (.int .i64 0)) := by
  have oo : ∀ k, OT bb nb gb (.slice none 0 0) k → (k = bb ∨ k = nb ∨ k = gb) := by
    rintro k ((q | q) | q)
    · exact .inl q
    · simp [Value.ownBlock] at q
    · exact .inr q
  have ms : Mv (fun k => k = bb ∨ k = gb) U8 (U9.setCell ⟨gb, 0, none⟩ (.int .i64 0)) := (m9.mono (fun k _ e => .inl e)).trans' (Mv.set1 (.inr rfl) _)
  have hj2 := hJ.keep _ _ _ _ hj (ms.mono (fun k _ e => by
    rcases e with rfl | rfl
    · exact ⟨t.nE _ (.inl rfl), by omega⟩
    · exact ⟨t.nE _ (.inr (.inr rfl)), by omega⟩))
  have g9 := (t.reset hbg m9).set 0
  refine ⟨t.mv.trans (E' := fun k => k = bb ∨ k = gb) (fun k hk => .inl (t.iE k (hk.imp id .inr))) ms, fun k => E3 k ∨ OT bb nb gb (.slice none 0 0) k, fun k hk => ?_, E3, _, n, 0, [], ⟨fun _ => Iff.rfl, h1, by simpa using h2, Nat.zero_le _⟩, hj2, ?_⟩
  · rcases hk with hk | hk
    · exact t.gr k hk
    · exact .inl (t.iE k (oo k hk))
  · refine ⟨hbl.mv (E := fun k => k = gb) (Mv.set1 (E := fun k => k = gb) rfl _) (fun k hk e => ?_), (t.nm.mv m9 (fun e => hbn e.symm)).mv (E := fun k => k = gb) (Mv.set1 (E := fun k => k = gb) rfl _) hng, g9, hng, ?_, ?_, fun k hk h => t.nE k (oo k h) hk, fun k hk => ?_⟩
    · rcases hk with q | q
      · exact hbg (q.symm.trans e)
      · simp [Value.ownBlock] at q
    · rintro (q | q)
      · exact hbn q.symm
      · simp [Value.ownBlock] at q
    · rintro (q | q)
      · exact hbg q.symm
      · simp [Value.ownBlock] at q
    · rcases oo k hk with rfl | rfl | rfl
      · exact hB.1
      · exact hB.2.1
      · exact hB.2.2
end Go.Proofs.YtmoafagemdnifaaDoor
