/- Rows of texts behind a slice. -/
import Derived.Test.YtppbdamlhcmlcaaPX
namespace Go.Proofs.Ytppbdamlhcmlcaa
open Go.RowKit Go.Shelf Go.Lib
/-- A row of texts behind a slice. -/
def NS (w : World) (v : Value) (xs : List ByteArray) : Prop :=
  (v = .slice none 0 0 ∧ xs = []) ∨ ∃ g o cap, v = .slice (some ⟨g, o, none⟩) xs.length cap ∧ g < w.heap.size ∧ xs.length ≤ cap ∧ cap ≤ maxLen ∧
    (∀ j x, xs[j]? = some x → w.cell? ⟨g, o + j, none⟩ = some (.string x)) ∧ (∀ j, j < cap → (w.cell? ⟨g, o + j, none⟩).isSome = true ∧ w.frozen? ⟨g, o + j, none⟩ = false)
theorem NS.lt {w : World} {v : Value} {xs : List ByteArray} (h : NS w v xs) {k : Nat} (hk : nb v = some k) : k < w.heap.size := by
  rcases h with ⟨rfl, _⟩ | ⟨g, o, cap, rfl, hg, _⟩
  · cases hk
  · cases hk; exact hg
theorem NS.mv {w w' : World} {v : Value} {xs : List ByteArray} {E : Nat → Prop} (h : NS w v xs) (m : Mv E w w') (hE : ∀ k, nb v = some k → ¬ E k) : NS w' v xs := by
  rcases h with h | ⟨g, o, cap, rfl, hg, h1, h2, h3, h4⟩
  · exact .inl h
  · have hb := m.block g hg (hE g rfl)
    have hc : ∀ j, w'.cell? ⟨g, o + j, none⟩ = w.cell? ⟨g, o + j, none⟩ := fun j => World.cell?_of_block hb
    have hf : ∀ j, w'.frozen? ⟨g, o + j, none⟩ = w.frozen? ⟨g, o + j, none⟩ := fun j => by unfold World.frozen?; rw [hb]
    exact .inr ⟨g, o, cap, rfl, Nat.lt_of_lt_of_le hg m.size, h1, h2, fun j x hx => (hc j).trans (h3 j x hx), fun j hj => by rw [hc, hf]; exact h4 j hj⟩
/-- A row that is owned is one. -/
theorem NS.own {w : World} {v : Value} {base : Nat} {e : TypeId} {xs : List ByteArray} (h : w.ownsRow base e 1 v xs.length (xs.map Value.string)) : NS w v xs := by
  rcases h.2 with ⟨rfl, h0⟩ | ⟨g, cap, cur, rfl, _, hg, h1, h2, h3, h4⟩
  · exact .inl ⟨rfl, List.eq_nil_of_length_eq_zero h0⟩
  · refine .inr ⟨g, 0, cap, rfl, (Array.getElem?_eq_some_iff.1 hg).1, h1, h2, fun j x hx => ?_, fun j hj => ?_⟩
    · unfold World.cell?
      rw [hg]
      have hj : j < xs.length := (List.getElem?_eq_some_iff.1 hx).1
      have : (xs.map Value.string)[j]? = some (.string x) := by rw [List.getElem?_map, hx]; rfl
      rw [← h4, List.getElem?_take_of_lt (by simpa using hj), Array.getElem?_toList] at this
      simpa using this
    · unfold World.cell? World.frozen?
      rw [hg]
      have : j < cur.size := by rw [h3]; omega
      simp [this]
theorem infoS : ∃ i, Try.prog.info? 9 = some i ∧ i.zero = some (.string ⟨#[]⟩) ∧ i.size = 1 ∧ i.bytes = 16 := by
  have h : (Try.prog.info? 9).map (fun i => (i.zero, i.size, i.bytes)) = some (some (.string ⟨#[]⟩), 1, 16) := by kernel_rfl
  cases e : Try.prog.info? 9 with
  | none => rw [e] at h; cases h
  | some i => rw [e] at h; simp at h; exact ⟨i, rfl, h⟩
theorem NS.append {w : World} {v : Value} {xs : List ByteArray} (h : NS w v xs) {a : Addr} {s : ByteArray} {c : Nat} (ha : w.cell? a = some (.string s)) (hl : xs.length ≤ 1000000) (ty : TypeId) :
    ∃ v' w', (Builtin.append_ #[56, 56] ty #[v, .slice (some a) 1 c]).run Try.prog w = .ok v' w' ∧ NS w' v' (xs ++ [s]) ∧ Mv (fun k => nb v = some k) w w' ∧ (nb v' = nb v ∨ ∃ k, nb v' = some k ∧ w.heap.size ≤ k) := by
  have hnews : ∀ j u, [Value.string s][j]? = some u → w.cell? (a.add j) = some u := by
    intro j u hj
    match j, hj with
    | 0, hj =>
      simp at hj; subst hj
      rw [← ha]; congr 1
  have he : (xs ++ [s]).map Value.string = xs.map Value.string ++ [Value.string s] := by simp
  have hL : (xs ++ [s]).length = xs.length + 1 := by simp
  obtain ⟨i0, hi, hz0, hz1, hz2⟩ := infoS
  rcases h with ⟨rfl, rfl⟩ | ⟨g, o, cap, rfl, hg, h1, h2, h3, h4⟩
  · obtain ⟨v', w', hrun, ho, hgr, _, hat⟩ := run_append_own_at (P := Try.prog) w w.heap.size 56 ty 9 _ (.string ⟨#[]⟩) 1 16 Try.underlying56 hi hz0 hz1 hz2 rfl (by decide) (.slice none 0 0) 0 [] (World.ownsRow_nil w _ _ _) a 1 c [.string s] rfl hnews (by simp [Value.oneCell']) (by unfold maxLen; omega) (by omega) (Nat.le_refl _)
    refine ⟨v', w', hrun, NS.own (base := w.heap.size) (e := 9) (by rw [he]; exact ho), (Mv.refl _ _).grown hgr (fun k e => by cases e), ?_⟩
    rcases ho.2 with ⟨rfl, h0⟩ | ⟨g, cap, cur, rfl, _, hg, _⟩
    · simp at h0
    · rcases hat with hat | hat
      · cases hat
      · exact .inr ⟨w.heap.size, by simpa [Value.ownBlock, nb] using hat, Nat.le_refl _⟩
  · by_cases hr : xs.length + 1 ≤ cap
    · have hrun := run_append_room_cells (P := Try.prog) w 56 ty 9 _ Try.underlying56 hi g o xs.length cap a 1 c [.string s] (by rw [hz1]; rfl) hnews (by simp [Value.oneCell']) hr (fun j hj => by rw [hz1]; obtain rfl : j = 0 := (by simpa using hj); simpa using (h4 xs.length (by omega)).1) (fun j hj => by rw [hz1]; obtain rfl : j = 0 := (by simpa using hj); simpa using (h4 xs.length (by omega)).2)
      rw [hz1] at hrun
      · refine ⟨_, _, hrun, .inr ⟨g, o, cap, by rw [hL], ?_, by rw [hL]; exact hr, h2, fun j x hx => ?_, fun j hj => ?_⟩, ?_, .inl rfl⟩
        · show g < (w.setCell _ _).heap.size
          simpa using hg
        · show (w.setCell ⟨g, o + xs.length * 1, none⟩ (.string s)).cell? _ = _
          rw [Nat.mul_one]
          rcases Nat.lt_or_ge j xs.length with hj | hj
          · rw [World.cell?_setCell_other _ _ _ _ (by simp; try omega)]
            rw [List.getElem?_append_left hj] at hx
            exact h3 j x hx
          · rw [List.getElem?_append_right hj] at hx
            obtain hj0 : j - xs.length = 0 := by
              rcases Nat.eq_zero_or_pos (j - xs.length) with h | h
              · exact h
              · rw [List.getElem?_eq_none (by simp; omega)] at hx; cases hx
            rw [hj0] at hx
            simp at hx; subst hx
            have : j = xs.length := by omega
            subst this
            exact World.cell?_setCell_same' _ _ _ (h4 _ (by omega)).1
        · refine ⟨?_, by show (w.setCell _ _).frozen? _ = false; rw [World.frozen?_setCell]; exact (h4 j hj).2⟩
          show ((w.setCell ⟨g, o + xs.length * 1, none⟩ (.string s)).cell? _).isSome = true
          rw [Nat.mul_one]
          by_cases hj2 : j = xs.length
          · subst hj2
            rw [World.cell?_setCell_same' _ _ _ (h4 _ (by omega)).1]; rfl
          · rw [World.cell?_setCell_other _ _ _ _ (by simp; try omega)]
            exact (h4 j hj).1
        · exact (Mv.refl (fun k => nb (Value.slice (some ⟨g, o, none⟩) xs.length cap) = some k) w).setc (p := ⟨g, o + xs.length * 1, none⟩) (.inl rfl) _
    · have hold : ∀ j u, (xs.map Value.string)[j]? = some u → w.cell? ((⟨g, o, none⟩ : Addr).add j) = some u := by
        intro j u hj
        rw [List.getElem?_map] at hj
        cases hx : xs[j]? with
        | none => rw [hx] at hj; cases hj
        | some x =>
          rw [hx] at hj; cases hj
          rw [Addr.add_lit]
          exact h3 j x hx
      obtain ⟨v', w', hrun, ho, hgr⟩ := run_append_arg_grows (P := Try.prog) w 56 ty 9 _ (.string ⟨#[]⟩) 1 16 Try.underlying56 hi hz0 hz1 hz2 rfl (by decide) ⟨g, o, none⟩ xs.length cap (xs.map Value.string) (by simp) hold a 1 c [.string s] rfl hnews (by omega) (by unfold maxLen; omega) (by omega)
      rw [← he, ← hL] at ho
      · refine ⟨v', w', hrun, NS.own ho, (Mv.refl _ _).grown hgr (fun k e => by cases e), .inr ?_⟩
        have hle := hgr.size
        rcases ho.2 with ⟨rfl, h0⟩ | ⟨g2, cap2, cur, rfl, hb2, hg2, _⟩
        · simp at h0
        · exact ⟨g2, rfl, hb2⟩
theorem NS.shape {w : World} {v : Value} {xs : List ByteArray} (h : NS w v xs) : ∃ p c, v = .slice p xs.length c := by
  rcases h with ⟨rfl, rfl⟩ | ⟨g, o, cap, rfl, _⟩
  · exact ⟨_, _, rfl⟩
  · exact ⟨_, _, rfl⟩
end Go.Proofs.Ytppbdamlhcmlcaa
