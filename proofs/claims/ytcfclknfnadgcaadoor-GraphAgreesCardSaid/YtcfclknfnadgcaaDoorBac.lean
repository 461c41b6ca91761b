import Derived.Test.YtcfclknfnadgcaaDoorNB0
import Derived.Test.YtcfclknfnadgcaaDoorGP
import Derived.Test.YtcfclknfnadgcaaDoorGL
import Derived.Test.YtcfclknfnadgcaaDoorNI
import Derived.Test.YtcfclknfnadgcaaDoorGRq
/- Rows of api.Edge in memory. -/
namespace Go.Proofs.YtcfclknfnadgcaaDoor.Eg
open Go.RowKit Go.Shelf Go.Lib
def flat : List Ed → List Value
  | [] => []
  | x :: r => .int .i64 x.1 :: .string x.2.1 :: .string x.2.2 :: flat r
theorem flat_len : ∀ xs, (flat xs).length = xs.length * 3
  | [] => rfl
  | x :: r => by simp [flat, flat_len r]; omega
theorem flat_app : ∀ xs ys, flat (xs ++ ys) = flat xs ++ flat ys
  | [], _ => rfl
  | x :: r, ys => by simp [flat, flat_app r ys]
theorem flat_one : ∀ xs, ∀ u ∈ flat xs, u.oneCell' = true
  | [], u, h => by cases h
  | x :: r, u, h => by
    simp only [flat, List.mem_cons] at h
    rcases h with rfl | rfl | rfl | h
    · rfl
    · rfl
    · rfl
    · exact flat_one r u h
theorem flat_at : ∀ (xs : List Ed) (j : Nat) (x : Ed), xs[j]? = some x → (flat xs)[j * 3]? = some (.int .i64 x.1) ∧ (flat xs)[j * 3 + 1]? = some (.string x.2.1) ∧ (flat xs)[j * 3 + 2]? = some (.string x.2.2)
  | [], j, x, h => by cases h
  | y :: r, 0, x, h => by simp at h; subst h; exact ⟨rfl, rfl, rfl⟩
  | y :: r, j + 1, x, h => by
    have := flat_at r j x (by simpa using h)
    rw [show (j + 1) * 3 = j * 3 + 3 by omega, show j * 3 + 3 + 1 = j * 3 + 1 + 3 by omega, show j * 3 + 3 + 2 = j * 3 + 2 + 3 by omega]
    exact this
theorem infoT : ∃ i, Tryd.prog.info? 37 = some i ∧ i.zero = some (.agg #[.int .i64 0, .string ⟨#[]⟩, .string ⟨#[]⟩]) ∧ i.size = 3 ∧ i.bytes = 40 := by
  have h : (Tryd.prog.info? 37).map (fun i => (i.zero, i.size, i.bytes)) = some (some (.agg #[.int .i64 0, .string ⟨#[]⟩, .string ⟨#[]⟩]), 3, 40) := by kernel_rfl
  cases e : Tryd.prog.info? 37 with
  | none => rw [e] at h; cases h
  | some i => rw [e] at h; simp at h; exact ⟨i, rfl, h⟩

/-- The records xs lie in block g from o on. -/
def RA (w : World) (g o : Nat) (xs : List Ed) : Prop := ∀ j u, (flat xs)[j]? = some u → w.cell? ⟨g, o + j, none⟩ = some u
/-- There is room for cap records. -/
structure Rm (w : World) (g o cap : Nat) : Prop where
  lt : g < w.heap.size
  mx : cap ≤ maxLen
  so : ∀ j, j < cap * 3 → (w.cell? ⟨g, o + j, none⟩).isSome = true
  fz : ∀ j, j < cap * 3 → w.frozen? ⟨g, o + j, none⟩ = false
theorem RA.nil (w : World) (g o : Nat) : RA w g o [] := fun j u h => by cases h
theorem RA.cv {S : Nat → Nat → Prop} {w w' : World} {g o : Nat} {xs : List Ed} (h : RA w g o xs) (m : Cv S w w') (hn : ∀ j, o ≤ j → j < o + xs.length * 3 → ¬ S g j) : RA w' g o xs := fun j u hj => by
  have hl : j < xs.length * 3 := by rw [← flat_len]; exact (List.getElem?_eq_some_iff.1 hj).1
  exact m.cell (hn _ (by omega) (by omega)) (h j u hj)
theorem Rm.cv {S : Nat → Nat → Prop} {w w' : World} {g o cap : Nat} (h : Rm w g o cap) (m : Cv S w w') : Rm w' g o cap :=
  ⟨Nat.lt_of_lt_of_le h.lt m.size, h.mx, fun j hj => m.pr _ _ h.lt (h.so j hj), fun j hj => (m.fr _ _ h.lt).trans (h.fz j hj)⟩
theorem Rm.sub {w : World} {g o cap : Nat} (h : Rm w g o cap) {a c : Nat} (hc : a + c ≤ cap) : Rm w g (o + a * 3) c :=
  ⟨h.lt, Nat.le_trans (by omega) h.mx, fun j hj => by rw [Nat.add_assoc]; exact h.so _ (by omega), fun j hj => by rw [Nat.add_assoc]; exact h.fz _ (by omega)⟩
theorem RA.app {w : World} {g o : Nat} {xs ys : List Ed} : RA w g o (xs ++ ys) ↔ RA w g o xs ∧ RA w g (o + xs.length * 3) ys := by
  unfold RA
  rw [flat_app]
  constructor
  · intro h
    refine ⟨fun j u hj => h j u (by rw [List.getElem?_append_left (List.getElem?_eq_some_iff.1 hj).1]; exact hj), fun j u hj => ?_⟩
    rw [Nat.add_assoc]
    exact h _ u (by rw [List.getElem?_append_right (by rw [flat_len]; omega), flat_len, show xs.length * 3 + j - xs.length * 3 = j by omega]; exact hj)
  · rintro ⟨h1, h2⟩ j u hj
    rcases Nat.lt_or_ge j (xs.length * 3) with hl | hl
    · exact h1 j u (by rw [List.getElem?_append_left (by rw [flat_len]; exact hl)] at hj; exact hj)
    · rw [List.getElem?_append_right (by rw [flat_len]; exact hl), flat_len] at hj
      have := h2 _ u hj
      rw [Nat.add_assoc, show xs.length * 3 + (j - xs.length * 3) = j by omega] at this
      exact this
theorem RA.at {w : World} {g o : Nat} {xs : List Ed} (h : RA w g o xs) {j : Nat} {x : Ed} (hx : xs[j]? = some x) :
    w.cell? ⟨g, o + j * 3, none⟩ = some (.int .i64 x.1) ∧ w.cell? ⟨g, o + j * 3 + 1, none⟩ = some (.string x.2.1) ∧ w.cell? ⟨g, o + j * 3 + 2, none⟩ = some (.string x.2.2) := by
  obtain ⟨h1, h2, h3⟩ := flat_at xs j x hx
  exact ⟨h _ _ h1, h _ _ h2, h _ _ h3⟩
/-- A slice of records. -/
structure RS (w : World) (g o cap : Nat) (xs : List Ed) : Prop where
  le : xs.length ≤ cap
  rm : Rm w g o cap
  ra : RA w g o xs
abbrev slv (g o n cap : Nat) : Value := .slice (some ⟨g, o, none⟩) n cap
theorem RS.cv {S : Nat → Nat → Prop} {w w' : World} {g o cap : Nat} {xs : List Ed} (h : RS w g o cap xs) (m : Cv S w w') (hn : ∀ j, o ≤ j → j < o + xs.length * 3 → ¬ S g j) : RS w' g o cap xs := ⟨h.le, h.rm.cv m, h.ra.cv m hn⟩
theorem RS.own {w : World} {v : Value} {base : Nat} {e : TypeId} {xs : List Ed} (h : w.ownsRow base e 3 v xs.length (flat xs)) (h0 : xs ≠ []) : ∃ g cap, v = slv g 0 xs.length cap ∧ base ≤ g ∧ RS w g 0 cap xs := by
  rcases h.2 with ⟨rfl, h1⟩ | ⟨g, cap, cur, rfl, hb, hg, h1, h2, h3, h4⟩
  · exact absurd (List.eq_nil_of_length_eq_zero h1) h0
  · refine ⟨g, cap, rfl, hb, h1, ⟨(Array.getElem?_eq_some_iff.1 hg).1, h2, fun j hj => ?_, fun j hj => ?_⟩, fun j x hx => ?_⟩
    · unfold World.cell?
      rw [hg]
      have : j < cur.size := by rw [h3]; omega
      simp [this]
    · unfold World.frozen?
      rw [hg]
      simp
    · have := h.cells (g := g) rfl j x hx
      rw [Addr.add_lit] at this
      exact this
theorem app_room {w : World} {g o cap : Nat} {xs ys : List Ed} (h : RS w g o cap xs) {g2 o2 c2 : Nat} (hy : RA w g2 o2 ys) (hr : xs.length + ys.length ≤ cap) (ty : TypeId) :
    ∃ w', (Builtin.append_ #[34, 34] ty #[slv g o xs.length cap, slv g2 o2 ys.length c2]).run Tryd.prog w = .ok (slv g o (xs.length + ys.length) cap) w' ∧ RS w' g o cap (xs ++ ys) ∧ Cv (fun k j => k = g ∧ o + xs.length * 3 ≤ j ∧ j < o + (xs.length + ys.length) * 3) w w' := by
  obtain ⟨i0, hi, hz0, hz1, hz2⟩ := infoT
  have hrun := run_append_room_cells (P := Tryd.prog) w 34 ty 37 _ Tryd.underlying34 hi g o xs.length cap ⟨g2, o2, none⟩ ys.length c2 (flat ys) (by rw [hz1, flat_len]) (fun j u hj => by rw [Addr.add_lit]; exact hy j u hj) (flat_one ys) hr (fun j hj => by rw [flat_len] at hj; rw [hz1, Nat.add_assoc]; exact h.rm.so _ (by omega)) (fun j hj => by rw [flat_len] at hj; rw [hz1, Nat.add_assoc]; exact h.rm.fz _ (by omega))
  rw [hz1] at hrun
  have hth : ∀ j, j < (flat ys).length → (w.cell? ⟨g, o + xs.length * 3 + j, none⟩).isSome = true := fun j hj => by rw [flat_len] at hj; rw [Nat.add_assoc]; exact h.rm.so _ (by omega)
  have m := Cv.cells w g (o + xs.length * 3) (flat ys)
  rw [flat_len] at m
  have m2 : Cv (fun k j => k = g ∧ o + xs.length * 3 ≤ j ∧ j < o + (xs.length + ys.length) * 3) w (w.setCells g (o + xs.length * 3) (flat ys)) := m.mono fun k j _ h => ⟨h.1, h.2.1, by have := h.2.2; omega⟩
  refine ⟨_, hrun, ⟨by rw [List.length_append]; exact hr, h.rm.cv m2, RA.app.2 ⟨h.ra.cv m2 (fun j _ hj q => by have := q.2.1; omega), fun j u hj => ?_⟩⟩, m2⟩
  obtain ⟨hlt, hge⟩ := List.getElem?_eq_some_iff.1 hj
  rw [World.cell?_setCells_in g _ _ w hth j hlt, hge]
theorem app_grow {w : World} {g o cap : Nat} {xs ys : List Ed} (h : RS w g o cap xs) {g2 o2 c2 : Nat} (hy : RA w g2 o2 ys) (hr : cap < xs.length + ys.length) (hx : xs.length ≤ 1000000) (hyl : ys.length ≤ 1000000) (ty : TypeId) :
    ∃ g' c' w', (Builtin.append_ #[34, 34] ty #[slv g o xs.length cap, slv g2 o2 ys.length c2]).run Tryd.prog w = .ok (slv g' 0 (xs.length + ys.length) c') w' ∧ w.heap.size ≤ g' ∧ RS w' g' 0 c' (xs ++ ys) ∧ Below w.heap.size w w' := by
  obtain ⟨i0, hi, hz0, hz1, hz2⟩ := infoT
  obtain ⟨v', w', hrun, ho, hgr⟩ := run_append_arg_grows (P := Tryd.prog) w 34 ty 37 _ _ 3 40 Tryd.underlying34 hi hz0 hz1 hz2 rfl (by decide) ⟨g, o, none⟩ xs.length cap (flat xs) (flat_len xs) (fun j u hj => by rw [Addr.add_lit]; exact h.ra j u hj) ⟨g2, o2, none⟩ ys.length c2 (flat ys) (flat_len ys) (fun j u hj => by rw [Addr.add_lit]; exact hy j u hj) hr (by unfold maxLen; omega) (by omega)
  rw [← flat_app, ← List.length_append] at ho
  obtain ⟨g', c', rfl, hb, hs⟩ := RS.own ho (by intro e; have := congrArg List.length e; rw [List.length_append, List.length_nil] at this; omega)
  rw [List.length_append] at hrun
  exact ⟨g', c', w', hrun, hb, hs, ((Mv.refl (fun _ => False) w).grown hgr (fun k e => by cases e)).toBelow (Nat.le_refl _) (fun _ _ h => h)⟩
theorem app_nil {w : World} {ys : List Ed} {g2 o2 c2 : Nat} (hy : RA w g2 o2 ys) (hy0 : ys ≠ []) (hyl : ys.length ≤ 1000000) (ty : TypeId) :
    ∃ g' c' w', (Builtin.append_ #[34, 34] ty #[.slice none 0 0, slv g2 o2 ys.length c2]).run Tryd.prog w = .ok (slv g' 0 ys.length c') w' ∧ w.heap.size ≤ g' ∧ RS w' g' 0 c' ys ∧ Below w.heap.size w w' := by
  obtain ⟨i0, hi, hz0, hz1, hz2⟩ := infoT
  obtain ⟨v', w', hrun, ho, hgr, _, hat⟩ := run_append_own_at (P := Tryd.prog) w w.heap.size 34 ty 37 _ _ 3 40 Tryd.underlying34 hi hz0 hz1 hz2 rfl (by decide) (.slice none 0 0) 0 [] (World.ownsRow_nil w _ _ _) ⟨g2, o2, none⟩ ys.length c2 (flat ys) (flat_len ys) (fun j u hj => by rw [Addr.add_lit]; exact hy j u hj) (flat_one ys) (by unfold maxLen; omega) (by omega) (Nat.le_refl _)
  rw [Nat.zero_add, List.nil_append] at ho
  obtain ⟨g', c', rfl, hb, hs⟩ := RS.own ho hy0
  exact ⟨g', c', w', hrun, hb, hs, ((Mv.refl (fun _ => False) w).grown hgr (fun k e => by cases e)).toBelow (Nat.le_refl _) (fun _ _ h => h)⟩
theorem app_none {w : World} {g o cap : Nat} {xs : List Ed} (h : RS w g o cap xs) (p : Option Addr) (c2 : Nat) (ty : TypeId) :
    (Builtin.append_ #[34, 34] ty #[slv g o xs.length cap, .slice p 0 c2]).run Tryd.prog w = .ok (slv g o xs.length cap) w := by
  obtain ⟨i0, hi, hz0, hz1, hz2⟩ := infoT
  have hle := h.le
  cases p <;> simp [Builtin.append_, run_underlying Tryd.underlying34, sizeOf, typeInfo, hi, Builtin.lenOf, Builtin.firstCells, loadCells, loadCellsFrom, storeCells, hle]
/-- A slice of records, nil or not. -/
def SV (w : World) (v : Value) (l : List Ed) : Prop := (v = .slice none 0 0 ∧ l = []) ∨ ∃ g o c, v = slv g o l.length c ∧ RS w g o c l
theorem SV.mv {F : Nat → Prop} {w V : World} {v : Value} {l : List Ed} (h : SV w v l) (m : Mv F w V) (hF : ∀ k, nbk v = some k → ¬ F k) : SV V v l := by
  rcases h with h | ⟨g, o, c, rfl, h⟩
  · exact .inl h
  · have hb := m.block g h.rm.lt (hF g rfl)
    have hc : ∀ j, V.cell? ⟨g, j, none⟩ = w.cell? ⟨g, j, none⟩ := fun j => World.cell?_of_block hb
    have hf : ∀ j, V.frozen? ⟨g, j, none⟩ = w.frozen? ⟨g, j, none⟩ := fun j => by unfold World.frozen?; rw [hb]
    exact .inr ⟨g, o, c, rfl, h.le, ⟨Nat.lt_of_lt_of_le h.rm.lt m.size, h.rm.mx, fun j hj => by rw [hc]; exact h.rm.so j hj, fun j hj => by rw [hf]; exact h.rm.fz j hj⟩, fun j u hj => (hc _).trans (h.ra j u hj)⟩
theorem SV.shape {w : World} {v : Value} {l : List Ed} (h : SV w v l) : ∃ p c, v = .slice p l.length c := by
  rcases h with ⟨rfl, rfl⟩ | ⟨g, o, c, rfl, _⟩
  · exact ⟨none, 0, rfl⟩
  · exact ⟨_, _, rfl⟩
theorem SV.lt {w : World} {v : Value} {l : List Ed} (h : SV w v l) {k : Nat} (hk : nbk v = some k) : k < w.heap.size := by
  rcases h with ⟨rfl, rfl⟩ | ⟨g, o, c, rfl, h⟩
  · cases hk
  · cases hk; exact h.rm.lt
theorem SV.append {w : World} {v : Value} {l : List Ed} (h : SV w v l) {g2 : Nat} {x : Ed} (hx : RA w g2 0 [x]) (hl : l.length ≤ 400000) (c2 : Nat) :
    ∃ v' w', (Builtin.append_ #[34, 34] 34 #[v, slv g2 0 1 c2]).run Tryd.prog w = .ok v' w' ∧ SV w' v' (l ++ [x]) ∧ Mv (fun k => nbk v = some k) w w' ∧ (nbk v' = nbk v ∨ ∃ k, nbk v' = some k ∧ w.heap.size ≤ k) := by
  rcases h with ⟨rfl, rfl⟩ | ⟨g, o, c, rfl, h⟩
  · obtain ⟨g', c', w', hrun, hg, hrs, hb⟩ := app_nil (c2 := c2) hx (by simp) (by simp) 34
    exact ⟨_, w', hrun, .inr ⟨g', 0, c', rfl, hrs⟩, Mv.below hb, .inr ⟨g', rfl, hg⟩⟩
  · by_cases hroom : l.length + 1 ≤ c
    · obtain ⟨V', hrun, hrs, hc⟩ := app_room h (c2 := c2) hx hroom 34
      exact ⟨_, V', hrun, .inr ⟨g, o, c, by rw [List.length_append], hrs⟩, hc.mv.mono (fun k _ s => by obtain ⟨j, e, _⟩ := s; subst e; rfl), .inl rfl⟩
    · obtain ⟨g', c', V', hrun, hg, hrs, hb⟩ := app_grow h (c2 := c2) hx (by simp; omega) (by omega) (by simp) 34
      exact ⟨_, V', hrun, .inr ⟨g', 0, c', by rw [List.length_append], hrs⟩, Mv.below hb, .inr ⟨g', rfl, hg⟩⟩
theorem RS.drop {w : World} {g o c : Nat} {L : List Ed} (h : RS w g o c L) {k : Nat} (hk : k ≤ L.length) : RS w g (if c = k then o else o + k * 3) (c - k) (L.drop k) := by
  have hle := h.le
  have ha := (RA.app.1 (by rw [List.take_append_drop]; exact h.ra : RA w g o (L.take k ++ L.drop k))).2
  rw [List.length_take, Nat.min_eq_left hk] at ha
  by_cases hc : c = k
  · rw [if_pos hc]
    have e : L.drop k = [] := List.drop_eq_nil_of_le (by omega)
    rw [e]
    exact ⟨by simp, ⟨h.rm.lt, by have := h.rm.mx; omega, fun j hj => by omega, fun j hj => by omega⟩, RA.nil _ _ _⟩
  · rw [if_neg hc]
    exact ⟨by rw [List.length_drop]; omega, h.rm.sub (by omega), ha⟩
theorem RS.take {w : World} {g o c : Nat} {L : List Ed} (h : RS w g o c L) (k : Nat) : RS w g o c (L.take k) :=
  ⟨Nat.le_trans (by rw [List.length_take]; omega) h.le, h.rm, (RA.app.1 (by rw [List.take_append_drop]; exact h.ra : RA w g o (L.take k ++ L.drop k))).1⟩
theorem slice_lo {w : World} {v : Value} {L : List Ed} (h : SV w v L) {k : Nat} (hk : k ≤ L.length) :
    ∃ dv, (∀ W, (Instr.slice 34 v (some (.int .i64 k)) none none).run Tryd.prog W = .ok dv W) ∧ SV w dv (L.drop k) ∧ ∀ b, nbk dv = some b → nbk v = some b := by
  obtain ⟨i0, hi, hz0, hz1, hz2⟩ := infoT
  rcases h with ⟨rfl, rfl⟩ | ⟨g, o, c, rfl, h⟩
  · have : k = 0 := by simpa using hk
    subst this
    refine ⟨.slice none 0 0, fun W => ?_, .inl ⟨rfl, rfl⟩, fun _ h => h⟩
    simp [Instr.slice, Instr.sliceBounds, Instr.sliceBound, run_underlying Tryd.underlying34, sizeOf, typeInfo, hi, asIntOf]
  · have hle := h.le
    refine ⟨slv g (if c = k then o else o + k * 3) (L.length - k) (c - k), fun W => ?_, .inr ⟨_, _, _, by rw [List.length_drop], h.drop hk⟩, fun _ h => h⟩
    by_cases e : c = k
    · simp [Instr.slice, Instr.sliceBounds, Instr.sliceBound, run_underlying Tryd.underlying34, sizeOf, typeInfo, hi, asIntOf, hz1, e, Addr.add_lit]; intro z; omega
    · simp [Instr.slice, Instr.sliceBounds, Instr.sliceBound, run_underlying Tryd.underlying34, sizeOf, typeInfo, hi, asIntOf, hz1, e, Addr.add_lit]; intro z; omega
theorem slice_hi {w : World} {v : Value} {L : List Ed} (h : SV w v L) {k : Nat} (hk : k ≤ L.length) :
    ∃ dv, (∀ W, (Instr.slice 34 v none (some (.int .i64 k)) none).run Tryd.prog W = .ok dv W) ∧ SV w dv (L.take k) := by
  obtain ⟨i0, hi, hz0, hz1, hz2⟩ := infoT
  rcases h with ⟨rfl, rfl⟩ | ⟨g, o, c, rfl, h⟩
  · have : k = 0 := by simpa using hk
    subst this
    refine ⟨.slice none 0 0, fun W => ?_, .inl ⟨rfl, rfl⟩⟩
    simp [Instr.slice, Instr.sliceBounds, Instr.sliceBound, run_underlying Tryd.underlying34, sizeOf, typeInfo, hi, asIntOf]
  · have hle := h.le
    refine ⟨slv g o k c, fun W => ?_, .inr ⟨_, _, _, by rw [List.length_take, Nat.min_eq_left hk], h.take k⟩⟩
    by_cases e : c = 0
    · have : k = 0 := by omega
      subst this
      simp [Instr.slice, Instr.sliceBounds, Instr.sliceBound, run_underlying Tryd.underlying34, sizeOf, typeInfo, hi, asIntOf, e]
    · simp [Instr.slice, Instr.sliceBounds, Instr.sliceBound, run_underlying Tryd.underlying34, sizeOf, typeInfo, hi, asIntOf, e, Addr.add_lit]; intro z; omega
theorem app_nn (w : World) (p : Option Addr) (c2 : Nat) (ty : TypeId) :
    (Builtin.append_ #[34, 34] ty #[.slice none 0 0, .slice p 0 c2]).run Tryd.prog w = .ok (.slice none 0 0) w := by
  obtain ⟨i0, hi, hz0, hz1, hz2⟩ := infoT
  cases p <;> simp [Builtin.append_, run_underlying Tryd.underlying34, sizeOf, typeInfo, hi, Builtin.lenOf, Builtin.firstCells, loadCells, loadCellsFrom]
/-- append(a, b...). -/
theorem SV.cat {w : World} {v v2 : Value} {l l2 : List Ed} (h : SV w v l) (h2 : SV w v2 l2) (hl : l.length ≤ 400000) (hl2 : l2.length ≤ 400000) :
    ∃ v' w', (Builtin.append_ #[34, 34] 34 #[v, v2]).run Tryd.prog w = .ok v' w' ∧ SV w' v' (l ++ l2) ∧ Mv (fun k => nbk v = some k) w w' ∧ (nbk v' = nbk v ∨ ∃ k, nbk v' = some k ∧ w.heap.size ≤ k) := by
  by_cases e2 : l2 = []
  · subst e2
    obtain ⟨p2, c2, rfl⟩ := h2.shape
    rw [List.append_nil]
    rcases h with ⟨rfl, rfl⟩ | ⟨g, o, c, rfl, h⟩
    · exact ⟨_, w, app_nn w p2 c2 _, .inl ⟨rfl, rfl⟩, Mv.refl _ _, .inl rfl⟩
    · exact ⟨_, w, app_none h p2 c2 _, .inr ⟨g, o, c, rfl, h⟩, Mv.refl _ _, .inl rfl⟩
  · obtain ⟨g2, o2, c2, rfl, r2⟩ := h2.resolve_left (fun z => e2 z.2)
    rcases h with ⟨rfl, rfl⟩ | ⟨g, o, c, rfl, h⟩
    · obtain ⟨g', c', w', hrun, hg, hrs, hb⟩ := app_nil (c2 := c2) r2.ra e2 (by omega) 34
      exact ⟨_, w', hrun, .inr ⟨g', 0, c', rfl, hrs⟩, Mv.below hb, .inr ⟨g', rfl, hg⟩⟩
    · by_cases hroom : l.length + l2.length ≤ c
      · obtain ⟨V', hrun, hrs, hc⟩ := app_room h (c2 := c2) r2.ra hroom 34
        exact ⟨_, V', hrun, .inr ⟨g, o, c, by rw [List.length_append], hrs⟩, hc.mv.mono (fun k _ s => by obtain ⟨j, e, _⟩ := s; subst e; rfl), .inl rfl⟩
      · obtain ⟨g', c', V', hrun, hg, hrs, hb⟩ := app_grow h (c2 := c2) r2.ra (by omega) (by omega) (by omega) 34
        exact ⟨_, V', hrun, .inr ⟨g', 0, c', by rw [List.length_append], hrs⟩, Mv.below hb, .inr ⟨g', rfl, hg⟩⟩
/-- One more behind it. -/
theorem SV.push {W : World} {v : Value} {l : List Ed} (h : SV W v l) (x : Ed) (hl : l.length ≤ 300000) {B : Nat} (hB : W.heap.size = B) :
    ∃ v' W', (Builtin.append_ #[34, 34] 34 #[v, .slice (some ⟨B, 0, none⟩) 1 1]).run Tryd.prog (W.alloc (.cells #[.int .i64 x.1, .string x.2.1, .string x.2.2] 37)) = .ok v' W' ∧ SV W' v' (l ++ [x]) ∧ Mv (fun k => nbk v = some k) W W' ∧ (nbk v' = nbk v ∨ ∃ k, nbk v' = some k ∧ W.heap.size ≤ k) := by
  subst hB
  obtain ⟨A, hA⟩ : ∃ A, W.alloc (.cells #[.int .i64 x.1, .string x.2.1, .string x.2.2] 37) = A := ⟨_, rfl⟩
  have bA : Below W.heap.size W A := by rw [← hA]; exact (Below.refl _ _).alloc (Nat.le_refl _) _
  have hx : RA A W.heap.size 0 [x] := fun j z hj => by
    rw [Nat.zero_add, ← hA]
    refine cell_at rfl ?_
    match j, hj with
    | 0, hj => exact hj
    | 1, hj => exact hj
    | 2, hj => exact hj
    | j + 3, hj => simp [flat] at hj
  obtain ⟨v2, W2, hr2, sv2, mv2, at2⟩ := (h.mv (F := fun _ => False) (Mv.below bA) (fun _ _ h => h)).append hx (by omega) 1
  rw [hA]
  refine ⟨v2, W2, hr2, sv2, (Mv.below bA).trans' mv2, at2.imp id ?_⟩
  rintro ⟨k, e, hk⟩
  exact ⟨k, e, Nat.le_trans bA.size hk⟩
end Go.Proofs.YtcfclknfnadgcaaDoor.Eg
/- What a unit tells of: an edge of a relation; steps of a walk under a fence. -/
namespace Go.Proofs.YtcfclknfnadgcaaDoor
open Go.RowKit Go.Shelf Go.Lib
theorem wpListIn_loadU {F : Fence} {n : Nat} {w : World} {ops : Array Oper} {rest : List Oper} {o : Oper} {a : Act} {Q : Exit → Act → World → Prop} (hg : o.guard = none) (s : Operand) (ho : o.op = .load 29 s) (p : Addr) (hs : a.eval s = .pointer (some p)) (vs : Array Value)
    (hr : (loadCells p 33).run Tryd.prog w = .ok vs w) (h : wpListIn F n Tryd.prog ops Q rest (a.put o.dst (.agg vs)) w) : wpListIn F n Tryd.prog ops Q (o :: rest) a w := by
  refine wpListIn_plain hg fun K hK' => ?_
  unfold Oper.wpIn
  refine ⟨?_, ?_⟩
  · simp [Oper.about, ho]
  · rw [Oper.semAt_plain F _ _ (by rw [ho]; intro c hc'; cases hc')]
    simp [execOp, ho, hs, loadAtU hr, Result.andThen]
    exact hK' _ _ h
set_option maxRecDepth 100000 in
set_option maxHeartbeats 1000000 in
theorem edge_any (k : Int) (t : Bool) (v : Value) (n s : ByteArray) (w : World) :
    Calls Tryd.prog 45 #[.agg #[.int .i64 k, .bool t, v], .string n, .string s] w fun e w' => e = .returned (.agg #[.int .i64 (edO n k t s).1, .string (edO n k t s).2.1, .string (edO n k t s).2.2]) ∧ Below w.heap.size w w' := by
  obtain ⟨B, hB⟩ : ∃ B, w.heap.size = B := ⟨_, rfl⟩
  cases t
  · go_enter Tryd.func45, Tryd.ntmps45
    go_wp2_with fail
    refine bodyPost_ret (v := .agg #[.int .i64 k, .string n, .string s]) (by simp [results, Tryd.results45, go_sem, hB]) rfl ⟨rfl, ?_⟩
    exact ((Below.refl _ _).alloc (by omega) _).alloc (by simp) _
  · go_enter Tryd.func45, Tryd.ntmps45
    go_wp2_with fail
    refine bodyPost_ret (v := .agg #[.int .i64 k, .string s, .string n]) (by simp [results, Tryd.results45, go_sem, hB]) rfl ⟨rfl, ?_⟩
    exact ((Below.refl _ _).alloc (by omega) _).alloc (by simp) _
theorem edN_cons (n : ByteArray) (k : Int) (t : Bool) (x : ByteArray) (r : List ByteArray) : edR n (k, t, x :: r) = if okO n x then edO n k t x :: edR n (k, t, r) else edR n (k, t, r) := by
  unfold edR
  cases h : okO n x <;> simp [h]
/-- The package's variables stay. -/
theorem GlN.mv {w w' : World} {E : Nat → Prop} (h : GlN w) (m : Mv E w w') (h0 : ¬ E 0) (h1 : ¬ E 1) : GlN w' :=
  ⟨fun j e he => ⟨m.cell (a := ⟨0, 2 * j, none⟩) h0 (h.en j e he).1, m.cell (a := ⟨0, 2 * j + 1, none⟩) h0 (h.en j e he).2⟩,
    by obtain ⟨q, hq⟩ := h.mx; exact ⟨q, m.cell (a := ⟨1, 0, none⟩) h1 hq⟩⟩
theorem GlN.lt {w : World} (h : GlN w) : 0 < w.heap.size ∧ 1 < w.heap.size := by
  obtain ⟨q, hq⟩ := h.mx
  exact ⟨cell_lt (h.en 0 _ rfl).1, cell_lt hq⟩
def encE (e : Ed) : Array Value := #[.agg #[.int .i64 e.1, .string e.2.1, .string e.2.2]]
end Go.Proofs.YtcfclknfnadgcaaDoor
/- What a unit tells of, as a row: graph.told$1. -/
namespace Go.Proofs.YtcfclknfnadgcaaDoor
open Go.RowKit Go.Shelf Go.Lib
attribute [local go_sem] Oper.semAt_some
theorem isN_eq (s : ByteArray) : (Nam.cutN s.data.toList).isSome = isN s := rfl
set_option maxRecDepth 100000 in
set_option maxHeartbeats 8000000 in
theorem told_row (n : Nat) (vs : Array Value) (u : Un) (E : Nat → Prop) (W : World) (hrel : ∀ w, UV w vs u → Calls Tryd.prog 44 #[.agg vs] w (RelsEnd w vs (relsU u))) (hu : UV W vs u) (hb : Ub n vs W) (en : ¬ E n) (eu : ∀ b, ubk vs b → ¬ E b) (hg : GlN W) (e0 : ¬ E 0) (e1 : ¬ E 1) (hsz : ∀ r ∈ relsU u, ∀ s ∈ r.2.2, s.size ≤ 2000000) :
    Row Tryd.prog 43 #[.pointer (some ⟨n, 0, none⟩)] encE (tolU u) E W := by
  intro q J Jx E1 V m g hJ hJx hY h0
  have ln : n < W.heap.size := cell_lt (hb 0 _ hu.c0)
  have f1 : ¬ E1 n := g.free ln en
  have fu : ∀ b, ubk vs b → ¬ E1 b := fun b hb => g.free (hu.lt hb) (eu b hb)
  have g0 : ¬ E1 0 := g.free hg.lt.1 e0
  have g1 : ¬ E1 1 := g.free hg.lt.2 e1
  have hu1 := hu.mv m eu
  have hb1 := hb.mv m en
  have hg1 := hg.mv m e0 e1
  have lnV : n < V.heap.size := Nat.lt_of_lt_of_le ln m.size
  have hld := hb1.load hu1.sz
  have hcall := hrel V hu1
  have hlow : Hid (∀ k, E1 k → k < V.heap.size) := fun k hk => hJ.low _ _ _ h0 k hk
  have huH := hidP hu1
  have hbH := hidP hb1
  have hgH := hidP hg1
  have fuH := hidP fu
  clear hrel hu hb hg en eu e0 e1 m g hu1 hb1 hg1 fu
  refine (callsIn_wide (n := 5)).1 ?_
  refine callsIn_of_wp Tryd.func43 rfl trivial ?_ rfl
  simp only [Tryd.ntmps43, List.size_toArray, List.length_cons, List.length_nil, Nat.reduceAdd, Nat.reduceSub, Array.replicate_succ, Array.replicate_zero, List.push_toArray, List.append_toArray, List.nil_append, List.cons_append]
  gi_wp2_with (refine wpListIn_loadU rfl _ rfl _ rfl _ hld ?_)
  refine ⟨trivial, (callsIn_wide.2 hcall).mono ?_⟩
  rintro e V1 ⟨gr, o, c, l, rfl, hrs, hrl, hgr, hbk, hbV⟩
  obtain ⟨L, hL⟩ : ∃ L, l.length = L := ⟨_, rfl⟩
  unfold Rw.slv
  rw [hL]
  have hLH := hidP hL
  have hlowH := hidP (show ∀ k, E1 k → k < V1.heap.size from fun k hk => Nat.lt_of_lt_of_le (hlow.out k hk) hbV.size)
  have hbVH := hidP hbV
  have hrsH := hidP hrs
  have hrlH := hidP hrl
  have hbkH := hidP hbk
  have hgrH := hidP hgr
  have hge : Hid (¬ E1 gr) := fun e => by have := hlow.out gr e; omega
  have hlowV := hidP hlow.out
  have hN : Hid ((relsU u).length = L) := by show _ = _; rw [← hrl.len]; exact hL
  have hLs : L ≤ 1000 := by
    have h1 := hN.out
    have h2 : (relsU u).length ≤ 20 := by
      unfold relsU rels7 relsT relsD
      simp only [List.length_append]
      split <;> split <;> (try split) <;> simp
    omega
  have hJ1 : Hid (J (tolU u) E1 V1) := hJ.keep _ _ _ _ h0 (Mv.below hbV)
  clear hL hbV hrs hrl hbk hgr hlow h0 hcall hld
  gi_wp2_with fail
  gi_loopw [10] (fun i wr => ∃ (k : Nat) (E2 : Nat → Prop), k ≤ L ∧ i = .int .i64 k ∧ Hid (J (((relsU u).drop k).flatMap (edR u.nm)) E2 wr) ∧ Hid (Mv E1 V1 wr) ∧ Hid (Gr E1 V1 E2)) (fun i _ => L - (intOf i).toNat)
  case atStart => exact ⟨0, E1, by omega, rfl, hJ1, Mv.refl _ _, Gr.refl _ _⟩
  case round =>
    obtain ⟨k, E2, hk, rfl, hj, hm, hg⟩ := hrel
    obtain ⟨wk, hwk⟩ : ∃ wk, wk = wr := ⟨_, rfl⟩
    subst hwk
    by_cases hlt : k < L
    · obtain ⟨x, hx⟩ : ∃ x, l[k]? = some x := ⟨_, List.getElem?_eq_getElem (by rw [hLH.out]; omega)⟩
      obtain ⟨⟨rk, rt, rn⟩, hr, hxk, hxt, hnr⟩ := hrlH.out.at hx
      have hRr : Rw.RA wk gr o l := fun j v hjv => hm.out.cell (a := ⟨gr, o + j, none⟩) hge.out (hrsH.out.ra j v hjv)
      obtain ⟨c0, c1, c2⟩ := hRr.at hx
      obtain ⟨xk, xt, xp, xn, xc⟩ := x
      dsimp only at hxk hxt hnr c0 c1 c2
      subst hxk
      subst hxt
      obtain rfl : xn = rn.length := by
        obtain ⟨p', c', e⟩ := hnr.shape
        unfold rsl at e
        injection e
      have hrnl : rn.length ≤ 1000000 := by
        rcases hnr with ⟨rfl, _⟩ | ⟨b, o', c', e, _, h2, _⟩
        · simp
        · exact h2
      have hname : Hid (∀ (j : Nat) (s : ByteArray), rn[j]? = some s → ∃ b o', xp = some ⟨b, o', none⟩ ∧ ¬ E1 b ∧ V1.cell? ⟨b, o' + j, none⟩ = some (.string s)) := by
        intro j s hs
        rcases hnr with ⟨rfl, _⟩ | ⟨b, o', c', e, h1, _, h3⟩
        · cases hs
        · unfold rsl at e
          injection e with e1 e2 e3
          subst e1
          refine ⟨b, o', rfl, fun eb => ?_, h3 j s hs⟩
          have hrb : rbk (rsl ⟨xk, xt, some ⟨b, o', none⟩, rn.length, xc⟩) = some b := by
            unfold rsl rbk
            simp [h1]
          rcases (hbkH.out _ (List.mem_of_getElem? hx) b hrb).1 with q | q
          · exact fuH.out b q eb
          · have := hlowV.out b eb; omega
      have hdr : (relsU u).drop k = (xk, xt, rn) :: (relsU u).drop (k + 1) := by
        obtain ⟨h1, h2⟩ := List.getElem?_eq_some_iff.1 hr
        rw [List.drop_eq_getElem_cons h1, h2]
      have hsr : Hid (∀ s ∈ rn, s.size ≤ 2000000) := fun s hs => hsz _ (List.mem_of_getElem? hr) s hs
      obtain ⟨R, hR⟩ : ∃ R, ((relsU u).drop (k + 1)).flatMap (edR u.nm) = R := ⟨_, rfl⟩
      have hj' := hj.out
      rw [hdr, List.flatMap_cons, hR] at hj'
      have hRH := hidP hR
      have hltI : (k : Int) < (L : Int) := by omega
      obtain ⟨WA, hWA⟩ : ∃ WA, wk.alloc (.cells #[.int .i64 xk, .bool xt, .slice xp rn.length xc] 88) = WA := ⟨_, rfl⟩
      have bWA : Below wk.heap.size wk WA := by rw [← hWA]; exact (Below.refl _ _).alloc (Nat.le_refl _) _
      have sWA : WA.heap.size = wk.heap.size + 1 := by rw [← hWA]; simp
      have hjA : Hid (J (edR u.nm (xk, xt, rn) ++ R) E2 WA) := hJ.keep _ _ _ _ hj' (Mv.below bWA)
      have hbox : Hid (WA.cell? ⟨wk.heap.size, 0, none⟩ = some (.int .i64 xk) ∧ WA.cell? ⟨wk.heap.size, 1, none⟩ = some (.bool xt) ∧ WA.cell? ⟨wk.heap.size, 2, none⟩ = some (.slice xp rn.length xc)) := by
        rw [← hWA]; exact ⟨cell_at rfl rfl, cell_at rfl rfl, cell_at rfl rfl⟩
      have hE2b : Hid (¬ E2 wk.heap.size) := fun e => by have := hJ.low _ _ _ hj' _ e; omega
      have bWAH := hidP bWA
      have hmA : Hid (Mv E1 V1 WA) := hm.out.trans hg.out (Mv.below bWA)
      have z2 := hbox.out.2.2
      clear hx hr hnr hRr hdr hj' hR bWA
      gi_wp2_with (rw [hWA])
      gi_loopw [17] (fun i wr => ∃ (j : Nat) (E3 : Nat → Prop), j ≤ rn.length ∧ i = .int .i64 j ∧ Hid (J (edR u.nm (xk, xt, rn.drop j) ++ R) E3 wr) ∧ Hid (Mv E2 WA wr) ∧ Hid (Gr E2 WA E3)) (fun i _ => rn.length - (intOf i).toNat)
      case atStart => exact ⟨0, E2, by omega, rfl, hjA, Mv.refl _ _, Gr.refl _ _⟩
      case round =>
        obtain ⟨j, E3, hjl, rfl, hj3, hm3, hg3⟩ := hrel
        have hmW : Mv E1 V1 wr := hmA.out.trans hg.out hm3.out
        have y0 := hm3.out.cell (a := ⟨wk.heap.size, 0, none⟩) hE2b.out hbox.out.1
        have y1 := hm3.out.cell (a := ⟨wk.heap.size, 1, none⟩) hE2b.out hbox.out.2.1
        have y2 := hm3.out.cell (a := ⟨wk.heap.size, 2, none⟩) hE2b.out hbox.out.2.2
        have un := hmW.cell (a := ⟨n, 0, none⟩) f1 ((Mv.below (E := fun _ => False) hbVH.out).cell (fun h => h) (hbH.out 0 _ huH.out.c0))
        by_cases hlj : j < rn.length
        · obtain ⟨s, hs⟩ : ∃ s, rn[j]? = some s := ⟨_, List.getElem?_eq_getElem hlj⟩
          obtain ⟨b, o', hxp, hbE, hcb⟩ := hname.out j s hs
          have hsc := hmW.cell (a := ⟨b, o' + j, none⟩) hbE hcb
          have hdj : rn.drop j = s :: rn.drop (j + 1) := by
            obtain ⟨h1, h2⟩ := List.getElem?_eq_some_iff.1 hs
            rw [List.drop_eq_getElem_cons h1, h2]
          have hj3' := hj3.out
          rw [hdj, edN_cons] at hj3'
          have hs2 := hsr.out s (List.mem_of_getElem? hs)
          have hgw : GlN wr := (hgH.out.below hbVH.out).mv hmW g0 g1
          have hljI : (j : Int) < (rn.length : Int) := by omega
          by_cases hne : s = u.nm
          · as_aux_lemma =>
              have hok : okO u.nm s = false := by unfold okO; simp [hne]
              rw [hok] at hj3'
              have hj4 := hidP hj3'
              subst hxp
              have tq : (s.toList == u.nm.toList) = true := by rw [hne]; simp
              clear hj3' hdj hs hcb hgw hmW
              gi_wp2_with fail
              repeat ((first | refine ⟨trivial, ?_⟩ | refine And.intro (by intro f hf; cases hf) ?_); gi_wp2_with fail)
              exact ⟨⟨j + 1, E3, by omega, by push_cast; rfl, hj4, hm3, hg3⟩, by simp [intOf]; omega⟩
          · have tq : (s.toList == u.nm.toList) = false := by
              rw [beq_eq_false_iff_ne]
              intro e
              rw [Lib.toList_data, Lib.toList_data] at e
              exact hne (ByteArray.ext (Array.toList_inj.1 e))
            have his := is_any s wr hgw hs2
            rw [isN_eq] at his
            subst hxp
            cases hi : isN s
            · as_aux_lemma =>
                rw [hi] at his
                have hok : okO u.nm s = false := by unfold okO; rw [hi, Bool.and_false]
                rw [hok] at hj3'
                have hj4 := hidP hj3'
                clear hj3' hdj hs hcb hgw hmW
                gi_wp2_with fail
                refine ⟨trivial, (callsIn_wide.2 his).mono ?_⟩
                rintro e w1 ⟨rfl, hb1⟩
                have hj5 : Hid (J (edR u.nm (xk, xt, rn.drop (j + 1)) ++ R) E3 w1) := hJ.keep _ _ _ _ hj4.out (Mv.below hb1)
                have hm5 : Hid (Mv E2 WA w1) := hm3.out.trans hg3.out (Mv.below hb1)
                clear hb1 his
                gi_wp2_with fail
                repeat ((first | refine ⟨trivial, ?_⟩ | refine And.intro (by intro f hf; cases hf) ?_); gi_wp2_with fail)
                exact ⟨⟨j + 1, E3, by omega, by push_cast; rfl, hj5, hm5, hg3⟩, by simp [intOf]; omega⟩
            · as_aux_lemma =>
                rw [hi] at his
                have hok : okO u.nm s = true := by unfold okO; rw [hi]; simp [hne]
                rw [hok] at hj3'
                have hj4 := hidP hj3'
                clear hj3' hdj hs hcb hgw hmW
                gi_wp2_with fail
                refine ⟨trivial, (callsIn_wide.2 his).mono ?_⟩
                rintro e w1 ⟨rfl, hb1⟩
                have bF := Mv.below (E := fun _ => False) hb1
                have q0 := bF.cell (fun h => h) y0
                have q1 := bF.cell (fun h => h) y1
                have q2 := bF.cell (fun h => h) y2
                have qn := bF.cell (fun h => h) un
                have hed := edge_any xk xt (.slice (some ⟨b, o', none⟩) rn.length xc) u.nm s w1
                have hbH1 := hidP hb1
                clear hb1 his bF y0 y1 y2 un
                gi_wp2_with fail
                refine ⟨trivial, (callsIn_wide.2 hed).mono ?_⟩
                rintro e w2 ⟨rfl, hb2⟩
                have hb12 : Below wr.heap.size wr w2 := hbH1.out.trans (hb2.mono hbH1.out.size)
                have hj5 := hJ.keep _ _ _ _ hj4.out (Mv.below hb12)
                have hm5 : Mv E2 WA w2 := hm3.out.trans hg3.out (Mv.below hb12)
                have hg5 : Gr E2 WA E3 := hg3.out
                simp only [↓reduceIte, List.cons_append] at hj5
                obtain ⟨fn, tmps, assign, body, hy, hRd⟩ := hY _ _ E3 w2 hj5
                dsimp only [encE] at hy
                have hmH := hidP hm5
                have hgH5 := hidP hg5
                have hszH := hidP hm5.size
                clear hb2 hed hbH1 hb12 hj5 hm5 hg5 q0 q1 q2 qn
                gi_wp2_with fail
                refine (wide_round' hRd).mono ?_
                rintro e W3 ⟨m3, (⟨rfl, E4, g4, hj6⟩ | ⟨rfl, E4, g4, hj6⟩)⟩
                · gi_wp2_with fail
                  exact ⟨⟨j + 1, E4, by omega, by push_cast; rfl, hj6, hmH.out.trans hgH5.out m3, hgH5.out.trans hszH.out g4⟩, by simp [intOf]; omega⟩
                · have hmZ : Mv E1 V1 W3 := hmA.out.trans hg.out (hmH.out.trans hgH5.out m3)
                  have hszV := hmA.out.size
                  have hgZ : Gr E1 V1 E4 := hg.out.trans hszV (hgH5.out.trans hszH.out g4)
                  gi_wp2_with fail
                  refine bodyPost_ret (results_none rfl _ _ _) rfl ?_
                  exact ⟨⟨_, rfl⟩, (Mv.below hbVH.out).trans' hmZ, .inr ⟨E4, hgZ.mono hbVH.out.size, hj6⟩⟩
        · obtain rfl : j = rn.length := by omega
          have hnl : rn.drop rn.length = [] := List.drop_length
          have hj3' := hj3.out
          rw [hnl] at hj3'
          have fin : Hid (J R E3 wr) := hj3'
          have hmF : Hid (Mv E1 V1 wr) := hmW
          have hgF : Hid (Gr E1 V1 E3) := hg.out.trans (by have := hm.out.size; have := bWAH.out.size; omega) hg3.out
          clear hj3' hmW hnl
          gi_wp2_with fail
          refine ⟨⟨k + 1, E3, by omega, by push_cast; rfl, ?_, hmF, hgF⟩, by simp [intOf]; omega⟩
          rw [hRH.out]; exact fin
    · obtain rfl : k = L := by omega
      have hnil : (relsU u).drop k = [] := List.drop_eq_nil_of_le (by rw [hN.out]; omega)
      have hj' := hj.out
      rw [hnil] at hj'
      gi_wp2_with fail
      go_end0
      exact ⟨⟨_, rfl⟩, (Mv.below hbVH.out).trans' hm.out, .inl ⟨E2, hg.out.mono hbVH.out.size, hj'⟩⟩
end Go.Proofs.YtcfclknfnadgcaaDoor
