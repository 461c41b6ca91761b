/- Rows of numbers behind a slice, that grow behind and are cut in front; ports beside such rows. -/
import Derived.Test.YtppbdamlhcmlcaaPK
namespace Go.Proofs.Ytppbdamlhcmlcaa
open Go.RowKit Go.Shelf Go.Lib
def encZ (a : Int) : Value := .int .i64 a
/-- A row of numbers behind a slice. -/
def IS (w : World) (v : Value) (xs : List Int) : Prop :=
  (v = .slice none 0 0 ∧ xs = []) ∨ ∃ g o cap, v = .slice (some ⟨g, o, none⟩) xs.length cap ∧ g < w.heap.size ∧ xs.length ≤ cap ∧ cap ≤ maxLen ∧
    (∀ j x, xs[j]? = some x → w.cell? ⟨g, o + j, none⟩ = some (.int .i64 x)) ∧ (∀ j, j < cap → (w.cell? ⟨g, o + j, none⟩).isSome = true ∧ w.frozen? ⟨g, o + j, none⟩ = false)
theorem IS.shape {w : World} {v : Value} {xs : List Int} (h : IS w v xs) : ∃ p c, v = .slice p xs.length c := by
  rcases h with ⟨rfl, rfl⟩ | ⟨g, o, cap, rfl, _⟩
  · exact ⟨_, _, rfl⟩
  · exact ⟨_, _, rfl⟩
theorem IS.lt {w : World} {v : Value} {xs : List Int} (h : IS w v xs) {k : Nat} (hk : nb v = some k) : k < w.heap.size := by
  rcases h with ⟨rfl, _⟩ | ⟨g, o, cap, rfl, hg, _⟩
  · cases hk
  · cases hk; exact hg
theorem IS.mv {w w' : World} {v : Value} {xs : List Int} {E : Nat → Prop} (h : IS w v xs) (m : Mv E w w') (hE : ∀ k, nb v = some k → ¬ E k) : IS w' v xs := by
  rcases h with h | ⟨g, o, cap, rfl, hg, h1, h2, h3, h4⟩
  · exact .inl h
  · have hb := m.block g hg (hE g rfl)
    have hc : ∀ j, w'.cell? ⟨g, o + j, none⟩ = w.cell? ⟨g, o + j, none⟩ := fun j => World.cell?_of_block hb
    have hf : ∀ j, w'.frozen? ⟨g, o + j, none⟩ = w.frozen? ⟨g, o + j, none⟩ := fun j => by unfold World.frozen?; rw [hb]
    exact .inr ⟨g, o, cap, rfl, Nat.lt_of_lt_of_le hg m.size, h1, h2, fun j x hx => (hc j).trans (h3 j x hx), fun j hj => by rw [hc, hf]; exact h4 j hj⟩
theorem IS.own {w : World} {v : Value} {base : Nat} {e : TypeId} {xs : List Int} (h : w.ownsRow base e 1 v xs.length (xs.map encZ)) : IS w v xs := by
  rcases h.2 with ⟨rfl, h0⟩ | ⟨g, cap, cur, rfl, _, hg, h1, h2, h3, h4⟩
  · exact .inl ⟨rfl, List.eq_nil_of_length_eq_zero h0⟩
  · refine .inr ⟨g, 0, cap, rfl, (Array.getElem?_eq_some_iff.1 hg).1, h1, h2, fun j x hx => ?_, fun j hj => ?_⟩
    · have := h.cells (g := g) rfl j (encZ x) (by rw [List.getElem?_map, hx]; rfl)
      rw [Addr.add_lit] at this
      exact this
    · unfold World.cell? World.frozen?
      rw [hg]
      have : j < cur.size := by rw [h3]; omega
      simp [this]
theorem infoZ : ∃ i, Try.prog.info? 3 = some i ∧ i.zero = some (.int .i64 0) ∧ i.size = 1 ∧ i.bytes = 8 := by
  have h : (Try.prog.info? 3).map (fun i => (i.zero, i.size, i.bytes)) = some (some (.int .i64 0), 1, 8) := by kernel_rfl
  cases e : Try.prog.info? 3 with
  | none => rw [e] at h; cases h
  | some i => rw [e] at h; simp at h; exact ⟨i, rfl, h⟩
theorem IS.append {w : World} {v : Value} {xs : List Int} (h : IS w v xs) {a : Addr} {s : Int} {c : Nat} (ha : w.cell? a = some (.int .i64 s)) (hl : xs.length ≤ 1000000) (ty : TypeId) :
    ∃ v' w', (Builtin.append_ #[66, 66] ty #[v, .slice (some a) 1 c]).run Try.prog w = .ok v' w' ∧ IS w' v' (xs ++ [s]) ∧ Mv (fun k => nb v = some k) w w' ∧ (nb v' = nb v ∨ ∃ k, nb v' = some k ∧ w.heap.size ≤ k) := by
  have hnews : ∀ j u, [encZ s][j]? = some u → w.cell? (a.add j) = some u := by
    intro j u hj
    match j, hj with
    | 0, hj =>
      simp at hj; subst hj
      rw [encZ, ← ha]; congr 1
  have he : (xs ++ [s]).map encZ = xs.map encZ ++ [encZ s] := by simp
  have hL : (xs ++ [s]).length = xs.length + 1 := by simp
  obtain ⟨i0, hi, hz0, hz1, hz2⟩ := infoZ
  have h1c : ∀ u ∈ [encZ s], u.oneCell' = true := fun u hu => by simp at hu; subst hu; rfl
  rcases h with ⟨rfl, rfl⟩ | ⟨g, o, cap, rfl, hg, h1, h2, h3, h4⟩
  · obtain ⟨v', w', hrun, ho, hgr, _, hat⟩ := run_append_own_at (P := Try.prog) w w.heap.size 66 ty 3 _ (.int .i64 0) 1 8 Try.underlying66 hi hz0 hz1 hz2 rfl (by decide) (.slice none 0 0) 0 [] (World.ownsRow_nil w _ _ _) a 1 c [encZ s] rfl hnews h1c (by unfold maxLen; omega) (by omega) (Nat.le_refl _)
    refine ⟨v', w', hrun, IS.own (base := w.heap.size) (e := 3) (by rw [he]; exact ho), (Mv.refl _ _).grown hgr (fun k e => by cases e), ?_⟩
    rcases ho.2 with ⟨rfl, h0⟩ | ⟨g, cap, cur, rfl, _, hg, _⟩
    · simp at h0
    · rcases hat with hat | hat
      · cases hat
      · exact .inr ⟨w.heap.size, by simpa [Value.ownBlock, nb] using hat, Nat.le_refl _⟩
  · by_cases hr : xs.length + 1 ≤ cap
    · have hrun := run_append_room_cells (P := Try.prog) w 66 ty 3 _ Try.underlying66 hi g o xs.length cap a 1 c [encZ s] (by rw [hz1]; rfl) hnews h1c hr (fun j hj => by rw [hz1, Nat.mul_one, Nat.add_assoc]; exact (h4 (xs.length + j) (by simp at hj; omega)).1) (fun j hj => by rw [hz1, Nat.mul_one, Nat.add_assoc]; exact (h4 (xs.length + j) (by simp at hj; omega)).2)
      rw [hz1, Nat.mul_one] at hrun
      have hth : ∀ j, j < [encZ s].length → (w.cell? ⟨g, o + xs.length + j, none⟩).isSome = true := fun j hj => by rw [Nat.add_assoc]; exact (h4 (xs.length + j) (by simp at hj; omega)).1
      refine ⟨_, _, hrun, .inr ⟨g, o, cap, by rw [hL], Nat.lt_of_lt_of_le hg ((Mv.refl (fun k => k = g) w).setCells (.inl rfl) _ _).size, by rw [hL]; exact hr, h2, fun j y hy => ?_, fun j hj => ?_⟩, (Mv.refl (fun k => nb (Value.slice (some ⟨g, o, none⟩) xs.length cap) = some k) w).setCells (.inl rfl) _ _, .inl rfl⟩
      · rcases Nat.lt_or_ge j xs.length with hj | hj
        · rw [World.cell?_setCells_out _ _ _ _ _ (fun _ _ => .inl (by show o + j < _; omega))]
          rw [List.getElem?_append_left hj] at hy
          exact h3 j y hy
        · rw [List.getElem?_append_right hj] at hy
          obtain ⟨i, rfl⟩ : ∃ i, j = xs.length + i := ⟨j - xs.length, by omega⟩
          rw [show xs.length + i - xs.length = i by omega] at hy
          match i, hy with
          | 0, hy =>
            simp at hy; subst hy
            rw [← Nat.add_assoc, World.cell?_setCells_in g _ _ w hth 0 (by simp)]; rfl
      · refine ⟨World.isSome_setCells _ _ _ _ _ (h4 j hj).1, by rw [World.frozen?_setCells]; exact (h4 j hj).2⟩
    · have hold : ∀ j u, (xs.map encZ)[j]? = some u → w.cell? ((⟨g, o, none⟩ : Addr).add j) = some u := fun j u hj => by
        rw [Addr.add_lit]
        rw [List.getElem?_map] at hj
        obtain ⟨x, hx, rfl⟩ := Option.map_eq_some_iff.1 hj
        exact h3 j x hx
      obtain ⟨v', w', hrun, ho, hgr⟩ := run_append_arg_grows (P := Try.prog) w 66 ty 3 _ (.int .i64 0) 1 8 Try.underlying66 hi hz0 hz1 hz2 rfl (by decide) ⟨g, o, none⟩ xs.length cap (xs.map encZ) (by simp) hold a 1 c [encZ s] rfl hnews (by omega) (by unfold maxLen; omega) (by omega)
      rw [← he, ← hL] at ho
      refine ⟨v', w', hrun, IS.own ho, (Mv.refl _ _).grown hgr (fun k e => by cases e), .inr ?_⟩
      rcases ho.2 with ⟨rfl, h0⟩ | ⟨g2, cap2, cur, rfl, hb2, hg2, _⟩
      · simp at h0
      · exact ⟨g2, rfl, hb2⟩
/-- Its first number is cut off. -/
theorem IS.cut {w : World} {x : Int} {r : List Int} {v : Value} (h : IS w v (x :: r)) : ∃ g o cap, v = .slice (some ⟨g, o, none⟩) (r.length + 1) cap ∧ w.cell? ⟨g, o, none⟩ = some (.int .i64 x) ∧ r.length + 1 ≤ cap ∧ cap ≤ maxLen ∧ IS w (.slice (if cap = 1 then some ⟨g, o, none⟩ else some ⟨g, o + 1, none⟩) r.length (cap - 1)) r := by
  rcases h with ⟨_, h⟩ | ⟨g, o, cap, rfl, hg, h1, h2, h3, h4⟩
  · cases h
  · refine ⟨g, o, cap, rfl, h3 0 x rfl, h1, h2, ?_⟩
    simp only [List.length_cons] at h1
    by_cases hc : cap = 1
    · rw [if_pos hc]
      subst hc
      obtain rfl : r = [] := List.eq_nil_of_length_eq_zero (by omega)
      exact .inr ⟨g, o, 0, rfl, hg, by simp, by omega, fun j x hx => by simp at hx, fun j hj => by omega⟩
    · rw [if_neg hc]
      exact .inr ⟨g, o + 1, cap - 1, rfl, hg, by omega, by omega, fun j y hy => by rw [show o + 1 + j = o + (j + 1) by omega]; exact h3 (j + 1) y hy, fun j hj => by rw [show o + 1 + j = o + (j + 1) by omega]; exact h4 (j + 1) (by omega)⟩
/-- Ports that a law has made, a row of numbers beside them. -/
structure Lw (w : World) (bt : Nat) (v : Value) (ws : List Int) (S : St) (W : World) : Prop where
  f : Fr w S W
  bt : S.bt = bt
  r : IS W v ws
  new : ∀ k, nb v = some k → w.heap.size ≤ k ∧ ¬ hasB S k
theorem Lw.below {w W W' : World} {bt : Nat} {v : Value} {ws : List Int} {S : St} (h : Lw w bt v ws S W) (b : Below W.heap.size W W') : Lw w bt v ws S W' :=
  ⟨h.f.below b, h.bt, h.r.mv (E := fun _ => False) (Mv.below b) (fun _ _ h => h), h.new⟩
theorem Lw.step {w W W' : World} {bt : Nat} {v : Value} {ws : List Int} {S S' : St} {d : Nat} (h : Lw w bt v ws S W) (g : Goes S W S' W' d) : Lw w bt v ws S' W' :=
  ⟨h.f.step g, g.bt.trans h.bt, h.r.mv g.mv (fun k hk => (h.new k hk).2), fun k hk => ⟨(h.new k hk).1, (g.beside (h.r.lt hk) (h.new k hk).2).2⟩⟩
theorem Lw.app {w W W' : World} {bt : Nat} {v v' : Value} {ws ws' : List Int} {S : St} (h : Lw w bt v ws S W) (r : IS W' v' ws') (m : Mv (fun k => nb v = some k) W W') (hn : nb v' = nb v ∨ ∃ k, nb v' = some k ∧ W.heap.size ≤ k) : Lw w bt v' ws' S W' :=
  ⟨⟨h.f.g.mv m (fun k hk e => (h.new k e).2 hk), h.f.b.trans (m.toBelow h.f.b.size (fun k hk e => by have := (h.new k e).1; omega)), h.f.n⟩, h.bt, r, fun k hk => by
    rcases hn with e | ⟨k2, e, hk2⟩
    · exact h.new k (e ▸ hk)
    · rw [hk] at e; injection e with e; subst e
      exact ⟨Nat.le_trans h.f.b.size hk2, fun q => by have := h.f.g.ltB q; omega⟩⟩
theorem Lw.cut {w W : World} {bt : Nat} {v v' : Value} {ws ws' : List Int} {S : St} (h : Lw w bt v ws S W) (r : IS W v' ws') (hn : nb v' = nb v) : Lw w bt v' ws' S W :=
  ⟨h.f, h.bt, r, fun k hk => h.new k (hn ▸ hk)⟩
end Go.Proofs.Ytppbdamlhcmlcaa
