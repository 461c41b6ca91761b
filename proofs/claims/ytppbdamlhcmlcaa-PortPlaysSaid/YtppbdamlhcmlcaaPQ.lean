/- Rows of pairs (a number, a text) behind a slice. -/
import Derived.Test.YtppbdamlhcmlcaaPM
import Derived.Deep.MidRow
import Derived.Lib.SliceRun
namespace Go.Proofs.Ytppbdamlhcmlcaa
open Go.RowKit Go.Shelf Go.Lib
abbrev Pr := Int × ByteArray
def flat : List Pr → List Value
  | [] => []
  | x :: r => .int .i64 x.1 :: .string x.2 :: flat r
theorem flat_len : ∀ xs, (flat xs).length = xs.length * 2
  | [] => rfl
  | x :: r => by simp [flat, flat_len r]; omega
theorem flat_app : ∀ xs ys, flat (xs ++ ys) = flat xs ++ flat ys
  | [], _ => rfl
  | x :: r, ys => by simp [flat, flat_app r ys]
theorem flat_one : ∀ xs, ∀ u ∈ flat xs, u.oneCell' = true
  | [], u, h => by cases h
  | x :: r, u, h => by
    simp only [flat, List.mem_cons] at h
    rcases h with rfl | rfl | h
    · rfl
    · rfl
    · exact flat_one r u h
theorem flat_at : ∀ (xs : List Pr) (j : Nat) (x : Pr), xs[j]? = some x → (flat xs)[2 * j]? = some (.int .i64 x.1) ∧ (flat xs)[2 * j + 1]? = some (.string x.2)
  | [], j, x, h => by cases h
  | y :: r, 0, x, h => by simp at h; subst h; exact ⟨rfl, rfl⟩
  | y :: r, j + 1, x, h => by
    have := flat_at r j x (by simpa using h)
    rw [show 2 * (j + 1) = 2 * j + 2 by omega, show 2 * j + 2 + 1 = 2 * j + 1 + 2 by omega]
    exact this
def prV (x : Pr) : Value := .agg #[.int .i64 x.1, .string x.2]
def zP : Pr := (0, ⟨#[]⟩)
/-- A type of such pairs, and of their rows. -/
structure TyQ (t e : TypeId) : Prop where
  u : Try.prog.underlying t = some (.slice e)
  i : ∃ i, Try.prog.info? e = some i ∧ i.zero = some (.agg #[.int .i64 0, .string ⟨#[]⟩]) ∧ i.size = 2 ∧ i.bytes = 24
  z : ∀ w, (zeroValue e).run Try.prog w = .ok (prV zP) w
theorem tyC : TyQ 54 41 := by
  refine ⟨Try.underlying54, ?_, fun w => by kernel_rfl⟩
  have h : (Try.prog.info? 41).map (fun i => (i.zero, i.size, i.bytes)) = some (some (.agg #[.int .i64 0, .string ⟨#[]⟩]), 2, 24) := by kernel_rfl
  cases e : Try.prog.info? 41 with
  | none => rw [e] at h; cases h
  | some i => rw [e] at h; simp at h; exact ⟨i, rfl, h⟩
theorem tyD : TyQ 28 49 := by
  refine ⟨Try.underlying28, ?_, fun w => by kernel_rfl⟩
  have h : (Try.prog.info? 49).map (fun i => (i.zero, i.size, i.bytes)) = some (some (.agg #[.int .i64 0, .string ⟨#[]⟩]), 2, 24) := by kernel_rfl
  cases e : Try.prog.info? 49 with
  | none => rw [e] at h; cases h
  | some i => rw [e] at h; simp at h; exact ⟨i, rfl, h⟩
/-- A row of pairs behind a slice. -/
def QS (w : World) (v : Value) (xs : List Pr) : Prop :=
  (v = .slice none 0 0 ∧ xs = []) ∨ ∃ g o cap, v = .slice (some ⟨g, o, none⟩) xs.length cap ∧ g < w.heap.size ∧ xs.length ≤ cap ∧ cap ≤ maxLen ∧
    (∀ j u, (flat xs)[j]? = some u → w.cell? ⟨g, o + j, none⟩ = some u) ∧ (∀ j, j < cap * 2 → (w.cell? ⟨g, o + j, none⟩).isSome = true ∧ w.frozen? ⟨g, o + j, none⟩ = false)
theorem QS.nil (w : World) : QS w (.slice none 0 0) [] := .inl ⟨rfl, rfl⟩
theorem QS.shape {w : World} {v : Value} {xs : List Pr} (h : QS w v xs) : ∃ p c, v = .slice p xs.length c := by
  rcases h with ⟨rfl, rfl⟩ | ⟨g, o, cap, rfl, _⟩
  · exact ⟨_, _, rfl⟩
  · exact ⟨_, _, rfl⟩
theorem QS.lt {w : World} {v : Value} {xs : List Pr} (h : QS w v xs) {k : Nat} (hk : nb v = some k) : k < w.heap.size := by
  rcases h with ⟨rfl, _⟩ | ⟨g, o, cap, rfl, hg, _⟩
  · cases hk
  · cases hk; exact hg
theorem QS.mv {w w' : World} {v : Value} {xs : List Pr} {E : Nat → Prop} (h : QS w v xs) (m : Mv E w w') (hE : ∀ k, nb v = some k → ¬ E k) : QS w' v xs := by
  rcases h with h | ⟨g, o, cap, rfl, hg, h1, h2, h3, h4⟩
  · exact .inl h
  · have hb := m.block g hg (hE g rfl)
    have hc : ∀ j, w'.cell? ⟨g, o + j, none⟩ = w.cell? ⟨g, o + j, none⟩ := fun j => World.cell?_of_block hb
    have hf : ∀ j, w'.frozen? ⟨g, o + j, none⟩ = w.frozen? ⟨g, o + j, none⟩ := fun j => by unfold World.frozen?; rw [hb]
    exact .inr ⟨g, o, cap, rfl, Nat.lt_of_lt_of_le hg m.size, h1, h2, fun j x hx => (hc j).trans (h3 j x hx), fun j hj => by rw [hc, hf]; exact h4 j hj⟩
theorem QS.below {w w' : World} {v : Value} {xs : List Pr} (h : QS w v xs) (b : Below w.heap.size w w') : QS w' v xs := h.mv (E := fun _ => False) (Mv.below b) (fun _ _ h => h)
theorem QS.own {w : World} {v : Value} {base : Nat} {e : TypeId} {xs : List Pr} (h : w.ownsRow base e 2 v xs.length (flat xs)) : QS w v xs := by
  rcases h.2 with ⟨rfl, h0⟩ | ⟨g, cap, cur, rfl, _, hg, h1, h2, h3, h4⟩
  · exact .inl ⟨rfl, List.eq_nil_of_length_eq_zero h0⟩
  · refine .inr ⟨g, 0, cap, rfl, (Array.getElem?_eq_some_iff.1 hg).1, h1, h2, fun j x hx => ?_, fun j hj => ?_⟩
    · have := h.cells (g := g) rfl j x hx
      rw [Addr.add_lit] at this
      exact this
    · unfold World.cell? World.frozen?
      rw [hg]
      have : j < cur.size := by rw [h3]; omega
      simp [this]
theorem Mv.setCells {E : Nat → Prop} {A W : World} {g : Nat} (h : Mv E A W) (hg : E g ∨ A.heap.size ≤ g) : ∀ (vs : List Value) (o : Nat), Mv E A (W.setCells g o vs)
  | [], _ => h
  | v :: r, o => (h.setc (p := ⟨g, o, none⟩) hg v).setCells hg r (o + 1)
theorem QS.append {t e : TypeId} (T : TyQ t e) {w : World} {v : Value} {xs : List Pr} (h : QS w v xs) {a : Addr} {x : Pr} {c : Nat} (ha : w.cell? a = some (.int .i64 x.1)) (ha2 : w.cell? (a.add 1) = some (.string x.2)) (hl : xs.length ≤ 1000000) (ty : TypeId) :
    ∃ v' w', (Builtin.append_ #[t, t] ty #[v, .slice (some a) 1 c]).run Try.prog w = .ok v' w' ∧ QS w' v' (xs ++ [x]) ∧ Mv (fun k => nb v = some k) w w' ∧ (nb v' = nb v ∨ ∃ k, nb v' = some k ∧ w.heap.size ≤ k) := by
  have hnews : ∀ j u, (flat [x])[j]? = some u → w.cell? (a.add j) = some u := by
    intro j u hj
    match j, hj with
    | 0, hj =>
      simp [flat] at hj; subst hj
      rw [← ha]; congr 1
    | 1, hj =>
      simp [flat] at hj; subst hj
      exact ha2
  have he : flat (xs ++ [x]) = flat xs ++ flat [x] := flat_app _ _
  have hL : (xs ++ [x]).length = xs.length + 1 := by simp
  obtain ⟨i0, hi, hz0, hz1, hz2⟩ := T.i
  have h1c := flat_one [x]
  rcases h with ⟨rfl, rfl⟩ | ⟨g, o, cap, rfl, hg, h1, h2, h3, h4⟩
  · obtain ⟨v', w', hrun, ho, hgr, _, hat⟩ := run_append_own_at (P := Try.prog) w w.heap.size t ty e _ _ 2 24 T.u hi hz0 hz1 hz2 rfl (by decide) (.slice none 0 0) 0 [] (World.ownsRow_nil w _ _ _) a 1 c (flat [x]) rfl hnews h1c (by unfold maxLen; omega) (by omega) (Nat.le_refl _)
    refine ⟨v', w', hrun, QS.own (base := w.heap.size) (e := e) ho, (Mv.refl _ _).grown hgr (fun k e => by cases e), ?_⟩
    rcases ho.2 with ⟨rfl, h0⟩ | ⟨g, cap, cur, rfl, _, hg, _⟩
    · simp at h0
    · rcases hat with hat | hat
      · cases hat
      · exact .inr ⟨w.heap.size, by simpa [Value.ownBlock, nb] using hat, Nat.le_refl _⟩
  · by_cases hr : xs.length + 1 ≤ cap
    · have hrun := run_append_room_cells (P := Try.prog) w t ty e _ T.u hi g o xs.length cap a 1 c (flat [x]) (by rw [hz1]; rfl) hnews h1c hr (fun j hj => by rw [hz1, Nat.add_assoc]; exact (h4 (xs.length * 2 + j) (by simp [flat] at hj; omega)).1) (fun j hj => by rw [hz1, Nat.add_assoc]; exact (h4 (xs.length * 2 + j) (by simp [flat] at hj; omega)).2)
      rw [hz1] at hrun
      have hth : ∀ j, j < (flat [x]).length → (w.cell? ⟨g, o + xs.length * 2 + j, none⟩).isSome = true := fun j hj => by rw [Nat.add_assoc]; exact (h4 (xs.length * 2 + j) (by simp [flat] at hj; omega)).1
      refine ⟨_, _, hrun, .inr ⟨g, o, cap, by rw [hL], Nat.lt_of_lt_of_le hg ((Mv.refl (fun k => k = g) w).setCells (.inl rfl) _ _).size, by rw [hL]; exact hr, h2, fun j y hy => ?_, fun j hj => ?_⟩, (Mv.refl (fun k => nb (Value.slice (some ⟨g, o, none⟩) xs.length cap) = some k) w).setCells (.inl rfl) _ _, .inl rfl⟩
      · rw [he] at hy
        rcases Nat.lt_or_ge j (xs.length * 2) with hj | hj
        · rw [World.cell?_setCells_out _ _ _ _ _ (fun _ _ => .inl (by show o + j < _; omega))]
          rw [List.getElem?_append_left (by rw [flat_len]; exact hj)] at hy
          exact h3 j y hy
        · rw [List.getElem?_append_right (by rw [flat_len]; exact hj), flat_len] at hy
          obtain ⟨i, rfl⟩ : ∃ i, j = xs.length * 2 + i := ⟨j - xs.length * 2, by omega⟩
          rw [show xs.length * 2 + i - xs.length * 2 = i by omega] at hy
          obtain ⟨hlt, hge⟩ := List.getElem?_eq_some_iff.1 hy
          rw [← Nat.add_assoc, World.cell?_setCells_in g _ _ w hth i hlt, hge]
      · refine ⟨World.isSome_setCells _ _ _ _ _ (h4 j hj).1, by rw [World.frozen?_setCells]; exact (h4 j hj).2⟩
    · have hold : ∀ j u, (flat xs)[j]? = some u → w.cell? ((⟨g, o, none⟩ : Addr).add j) = some u := fun j u hj => by
        rw [Addr.add_lit]; exact h3 j u hj
      obtain ⟨v', w', hrun, ho, hgr⟩ := run_append_arg_grows (P := Try.prog) w t ty e _ _ 2 24 T.u hi hz0 hz1 hz2 rfl (by decide) ⟨g, o, none⟩ xs.length cap (flat xs) (flat_len xs) hold a 1 c (flat [x]) rfl hnews (by omega) (by unfold maxLen; omega) (by omega)
      rw [← he, ← hL] at ho
      refine ⟨v', w', hrun, QS.own ho, (Mv.refl _ _).grown hgr (fun k e => by cases e), .inr ?_⟩
      have hle := hgr.size
      rcases ho.2 with ⟨rfl, h0⟩ | ⟨g2, cap2, cur, rfl, hb2, hg2, _⟩
      · simp at h0
      · exact ⟨g2, rfl, hb2⟩
/-- clear of one pair. -/
theorem run_clear2 {t e : TypeId} (T : TyQ t e) (w : World) (ty : TypeId) (b o c : Nat)
    (hc : ∀ j, j < 2 → (w.cell? ⟨b, o + j, none⟩).isSome = true) (hf : ∀ j, j < 2 → w.frozen? ⟨b, o + j, none⟩ = false) :
    (Builtin.clear_ #[t] ty #[.slice (some ⟨b, o, none⟩) 1 c]).run Try.prog w = .ok (.tuple #[]) (w.setCells b o (flat [zP])) := by
  have hst := run_storeCells_cells (P := Try.prog) b o (flat [zP]) 0 w (by simpa [flat] using hc) (by simpa [flat] using hf) (flat_one _)
  simp only [Nat.add_zero] at hst
  have hz : (Builtin.zeroCells (prV zP).cells 1).toList = flat [zP] := by kernel_rfl
  simp [Builtin.clear_, run_underlying T.u, T.z, hz, hst]
end Go.Proofs.Ytppbdamlhcmlcaa
