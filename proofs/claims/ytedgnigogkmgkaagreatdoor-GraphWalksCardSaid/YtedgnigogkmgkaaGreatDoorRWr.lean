/- Rows of graph.relation in memory. -/
import Derived.Test.YtedgnigogkmgkaaGreatDoorNB0
import Derived.Test.YtedgnigogkmgkaaGreatDoorGP
namespace Go.Proofs.YtedgnigogkmgkaaGreatDoor.Rw
open Go.RowKit Go.Shelf Go.Lib
def flat : List Rr → List Value
  | [] => []
  | x :: r => .int .i64 x.k :: .bool x.t :: .slice x.p x.n x.c :: flat r
theorem flat_len : ∀ xs, (flat xs).length = xs.length * 3
  | [] => rfl
  | x :: r => by simp [flat, flat_len r]; omega
theorem flat_app : ∀ xs ys, flat (xs ++ ys) = flat xs ++ flat ys
  | [], _ => rfl
  | x :: r, ys => by simp [flat, flat_app r ys]
theorem flat_one : ∀ xs, ∀ u ∈ flat xs, u.oneCell' = true
  | [], u, h => by cases h
  | x :: r, u, h => by
    simp only [flat, List.mem_cons] at h
    rcases h with rfl | rfl | rfl | h
    · rfl
    · rfl
    · rfl
    · exact flat_one r u h
theorem flat_at : ∀ (xs : List Rr) (j : Nat) (x : Rr), xs[j]? = some x → (flat xs)[j * 3]? = some (.int .i64 x.k) ∧ (flat xs)[j * 3 + 1]? = some (.bool x.t) ∧ (flat xs)[j * 3 + 2]? = some (.slice x.p x.n x.c)
  | [], j, x, h => by cases h
  | y :: r, 0, x, h => by simp at h; subst h; exact ⟨rfl, rfl, rfl⟩
  | y :: r, j + 1, x, h => by
    have := flat_at r j x (by simpa using h)
    rw [show (j + 1) * 3 = j * 3 + 3 by omega, show j * 3 + 3 + 1 = j * 3 + 1 + 3 by omega, show j * 3 + 3 + 2 = j * 3 + 2 + 3 by omega]
    exact this
theorem infoT : ∃ i, Tryz.prog.info? 202 = some i ∧ i.zero = some (.agg #[.int .i64 0, .bool false, .slice none 0 0]) ∧ i.size = 3 ∧ i.bytes = 40 := by
  have h : (Tryz.prog.info? 202).map (fun i => (i.zero, i.size, i.bytes)) = some (some (.agg #[.int .i64 0, .bool false, .slice none 0 0]), 3, 40) := by kernel_rfl
  cases e : Tryz.prog.info? 202 with
  | none => rw [e] at h; cases h
  | some i => rw [e] at h; simp at h; exact ⟨i, rfl, h⟩

/-- The records xs lie in block g from o on. -/
def RA (w : World) (g o : Nat) (xs : List Rr) : Prop := ∀ j u, (flat xs)[j]? = some u → w.cell? ⟨g, o + j, none⟩ = some u
/-- There is room for cap records. -/
structure Rm (w : World) (g o cap : Nat) : Prop where
  lt : g < w.heap.size
  mx : cap ≤ maxLen
  so : ∀ j, j < cap * 3 → (w.cell? ⟨g, o + j, none⟩).isSome = true
  fz : ∀ j, j < cap * 3 → w.frozen? ⟨g, o + j, none⟩ = false
theorem RA.nil (w : World) (g o : Nat) : RA w g o [] := fun j u h => by cases h
theorem RA.cv {S : Nat → Nat → Prop} {w w' : World} {g o : Nat} {xs : List Rr} (h : RA w g o xs) (m : Cv S w w') (hn : ∀ j, o ≤ j → j < o + xs.length * 3 → ¬ S g j) : RA w' g o xs := fun j u hj => by
  have hl : j < xs.length * 3 := by rw [← flat_len]; exact (List.getElem?_eq_some_iff.1 hj).1
  exact m.cell (hn _ (by omega) (by omega)) (h j u hj)
theorem Rm.cv {S : Nat → Nat → Prop} {w w' : World} {g o cap : Nat} (h : Rm w g o cap) (m : Cv S w w') : Rm w' g o cap :=
  ⟨Nat.lt_of_lt_of_le h.lt m.size, h.mx, fun j hj => m.pr _ _ h.lt (h.so j hj), fun j hj => (m.fr _ _ h.lt).trans (h.fz j hj)⟩
theorem Rm.sub {w : World} {g o cap : Nat} (h : Rm w g o cap) {a c : Nat} (hc : a + c ≤ cap) : Rm w g (o + a * 3) c :=
  ⟨h.lt, Nat.le_trans (by omega) h.mx, fun j hj => by rw [Nat.add_assoc]; exact h.so _ (by omega), fun j hj => by rw [Nat.add_assoc]; exact h.fz _ (by omega)⟩
theorem RA.app {w : World} {g o : Nat} {xs ys : List Rr} : RA w g o (xs ++ ys) ↔ RA w g o xs ∧ RA w g (o + xs.length * 3) ys := by
  unfold RA
  rw [flat_app]
  constructor
  · intro h
    refine ⟨fun j u hj => h j u (by rw [List.getElem?_append_left (List.getElem?_eq_some_iff.1 hj).1]; exact hj), fun j u hj => ?_⟩
    rw [Nat.add_assoc]
    exact h _ u (by rw [List.getElem?_append_right (by rw [flat_len]; omega), flat_len, show xs.length * 3 + j - xs.length * 3 = j by omega]; exact hj)
  · rintro ⟨h1, h2⟩ j u hj
    rcases Nat.lt_or_ge j (xs.length * 3) with hl | hl
    · exact h1 j u (by rw [List.getElem?_append_left (by rw [flat_len]; exact hl)] at hj; exact hj)
    · rw [List.getElem?_append_right (by rw [flat_len]; exact hl), flat_len] at hj
      have := h2 _ u hj
      rw [Nat.add_assoc, show xs.length * 3 + (j - xs.length * 3) = j by omega] at this
      exact this
theorem RA.at {w : World} {g o : Nat} {xs : List Rr} (h : RA w g o xs) {j : Nat} {x : Rr} (hx : xs[j]? = some x) :
    w.cell? ⟨g, o + j * 3, none⟩ = some (.int .i64 x.k) ∧ w.cell? ⟨g, o + j * 3 + 1, none⟩ = some (.bool x.t) ∧ w.cell? ⟨g, o + j * 3 + 2, none⟩ = some (.slice x.p x.n x.c) := by
  obtain ⟨h1, h2, h3⟩ := flat_at xs j x hx
  exact ⟨h _ _ h1, h _ _ h2, h _ _ h3⟩
/-- A slice of records. -/
structure RS (w : World) (g o cap : Nat) (xs : List Rr) : Prop where
  le : xs.length ≤ cap
  rm : Rm w g o cap
  ra : RA w g o xs
abbrev slv (g o n cap : Nat) : Value := .slice (some ⟨g, o, none⟩) n cap
theorem RS.cv {S : Nat → Nat → Prop} {w w' : World} {g o cap : Nat} {xs : List Rr} (h : RS w g o cap xs) (m : Cv S w w') (hn : ∀ j, o ≤ j → j < o + xs.length * 3 → ¬ S g j) : RS w' g o cap xs := ⟨h.le, h.rm.cv m, h.ra.cv m hn⟩
theorem RS.own {w : World} {v : Value} {base : Nat} {e : TypeId} {xs : List Rr} (h : w.ownsRow base e 3 v xs.length (flat xs)) (h0 : xs ≠ []) : ∃ g cap, v = slv g 0 xs.length cap ∧ base ≤ g ∧ RS w g 0 cap xs := by
  rcases h.2 with ⟨rfl, h1⟩ | ⟨g, cap, cur, rfl, hb, hg, h1, h2, h3, h4⟩
  · exact absurd (List.eq_nil_of_length_eq_zero h1) h0
  · refine ⟨g, cap, rfl, hb, h1, ⟨(Array.getElem?_eq_some_iff.1 hg).1, h2, fun j hj => ?_, fun j hj => ?_⟩, fun j x hx => ?_⟩
    · unfold World.cell?
      rw [hg]
      have : j < cur.size := by rw [h3]; omega
      simp [this]
    · unfold World.frozen?
      rw [hg]
      simp
    · have := h.cells (g := g) rfl j x hx
      rw [Addr.add_lit] at this
      exact this
theorem app_room {w : World} {g o cap : Nat} {xs ys : List Rr} (h : RS w g o cap xs) {g2 o2 c2 : Nat} (hy : RA w g2 o2 ys) (hr : xs.length + ys.length ≤ cap) (ty : TypeId) :
    ∃ w', (Builtin.append_ #[199, 199] ty #[slv g o xs.length cap, slv g2 o2 ys.length c2]).run Tryz.prog w = .ok (slv g o (xs.length + ys.length) cap) w' ∧ RS w' g o cap (xs ++ ys) ∧ Cv (fun k j => k = g ∧ o + xs.length * 3 ≤ j ∧ j < o + (xs.length + ys.length) * 3) w w' := by
  obtain ⟨i0, hi, hz0, hz1, hz2⟩ := infoT
  have hrun := run_append_room_cells (P := Tryz.prog) w 199 ty 202 _ Tryz.underlying199 hi g o xs.length cap ⟨g2, o2, none⟩ ys.length c2 (flat ys) (by rw [hz1, flat_len]) (fun j u hj => by rw [Addr.add_lit]; exact hy j u hj) (flat_one ys) hr (fun j hj => by rw [flat_len] at hj; rw [hz1, Nat.add_assoc]; exact h.rm.so _ (by omega)) (fun j hj => by rw [flat_len] at hj; rw [hz1, Nat.add_assoc]; exact h.rm.fz _ (by omega))
  rw [hz1] at hrun
  have hth : ∀ j, j < (flat ys).length → (w.cell? ⟨g, o + xs.length * 3 + j, none⟩).isSome = true := fun j hj => by rw [flat_len] at hj; rw [Nat.add_assoc]; exact h.rm.so _ (by omega)
  have m := Cv.cells w g (o + xs.length * 3) (flat ys)
  rw [flat_len] at m
  have m2 : Cv (fun k j => k = g ∧ o + xs.length * 3 ≤ j ∧ j < o + (xs.length + ys.length) * 3) w (w.setCells g (o + xs.length * 3) (flat ys)) := m.mono fun k j _ h => ⟨h.1, h.2.1, by have := h.2.2; omega⟩
  refine ⟨_, hrun, ⟨by rw [List.length_append]; exact hr, h.rm.cv m2, RA.app.2 ⟨h.ra.cv m2 (fun j _ hj q => by have := q.2.1; omega), fun j u hj => ?_⟩⟩, m2⟩
  obtain ⟨hlt, hge⟩ := List.getElem?_eq_some_iff.1 hj
  rw [World.cell?_setCells_in g _ _ w hth j hlt, hge]
theorem app_grow {w : World} {g o cap : Nat} {xs ys : List Rr} (h : RS w g o cap xs) {g2 o2 c2 : Nat} (hy : RA w g2 o2 ys) (hr : cap < xs.length + ys.length) (hx : xs.length ≤ 1000000) (hyl : ys.length ≤ 1000000) (ty : TypeId) :
    ∃ g' c' w', (Builtin.append_ #[199, 199] ty #[slv g o xs.length cap, slv g2 o2 ys.length c2]).run Tryz.prog w = .ok (slv g' 0 (xs.length + ys.length) c') w' ∧ w.heap.size ≤ g' ∧ RS w' g' 0 c' (xs ++ ys) ∧ Below w.heap.size w w' := by
  obtain ⟨i0, hi, hz0, hz1, hz2⟩ := infoT
  obtain ⟨v', w', hrun, ho, hgr⟩ := run_append_arg_grows (P := Tryz.prog) w 199 ty 202 _ _ 3 40 Tryz.underlying199 hi hz0 hz1 hz2 rfl (by decide) ⟨g, o, none⟩ xs.length cap (flat xs) (flat_len xs) (fun j u hj => by rw [Addr.add_lit]; exact h.ra j u hj) ⟨g2, o2, none⟩ ys.length c2 (flat ys) (flat_len ys) (fun j u hj => by rw [Addr.add_lit]; exact hy j u hj) hr (by unfold maxLen; omega) (by omega)
  rw [← flat_app, ← List.length_append] at ho
  obtain ⟨g', c', rfl, hb, hs⟩ := RS.own ho (by intro e; have := congrArg List.length e; rw [List.length_append, List.length_nil] at this; omega)
  rw [List.length_append] at hrun
  exact ⟨g', c', w', hrun, hb, hs, ((Mv.refl (fun _ => False) w).grown hgr (fun k e => by cases e)).toBelow (Nat.le_refl _) (fun _ _ h => h)⟩
theorem app_nil {w : World} {ys : List Rr} {g2 o2 c2 : Nat} (hy : RA w g2 o2 ys) (hy0 : ys ≠ []) (hyl : ys.length ≤ 1000000) (ty : TypeId) :
    ∃ g' c' w', (Builtin.append_ #[199, 199] ty #[.slice none 0 0, slv g2 o2 ys.length c2]).run Tryz.prog w = .ok (slv g' 0 ys.length c') w' ∧ w.heap.size ≤ g' ∧ RS w' g' 0 c' ys ∧ Below w.heap.size w w' := by
  obtain ⟨i0, hi, hz0, hz1, hz2⟩ := infoT
  obtain ⟨v', w', hrun, ho, hgr, _, hat⟩ := run_append_own_at (P := Tryz.prog) w w.heap.size 199 ty 202 _ _ 3 40 Tryz.underlying199 hi hz0 hz1 hz2 rfl (by decide) (.slice none 0 0) 0 [] (World.ownsRow_nil w _ _ _) ⟨g2, o2, none⟩ ys.length c2 (flat ys) (flat_len ys) (fun j u hj => by rw [Addr.add_lit]; exact hy j u hj) (flat_one ys) (by unfold maxLen; omega) (by omega) (Nat.le_refl _)
  rw [Nat.zero_add, List.nil_append] at ho
  obtain ⟨g', c', rfl, hb, hs⟩ := RS.own ho hy0
  exact ⟨g', c', w', hrun, hb, hs, ((Mv.refl (fun _ => False) w).grown hgr (fun k e => by cases e)).toBelow (Nat.le_refl _) (fun _ _ h => h)⟩
theorem app_none {w : World} {g o cap : Nat} {xs : List Rr} (h : RS w g o cap xs) (p : Option Addr) (c2 : Nat) (ty : TypeId) :
    (Builtin.append_ #[199, 199] ty #[slv g o xs.length cap, .slice p 0 c2]).run Tryz.prog w = .ok (slv g o xs.length cap) w := by
  obtain ⟨i0, hi, hz0, hz1, hz2⟩ := infoT
  have hle := h.le
  cases p <;> simp [Builtin.append_, run_underlying Tryz.underlying199, sizeOf, typeInfo, hi, Builtin.lenOf, Builtin.firstCells, loadCells, loadCellsFrom, storeCells, hle]
/-- A slice of records, nil or not. -/
def SV (w : World) (v : Value) (l : List Rr) : Prop := (v = .slice none 0 0 ∧ l = []) ∨ ∃ g o c, v = slv g o l.length c ∧ RS w g o c l
theorem SV.mv {F : Nat → Prop} {w V : World} {v : Value} {l : List Rr} (h : SV w v l) (m : Mv F w V) (hF : ∀ k, nbk v = some k → ¬ F k) : SV V v l := by
  rcases h with h | ⟨g, o, c, rfl, h⟩
  · exact .inl h
  · have hb := m.block g h.rm.lt (hF g rfl)
    have hc : ∀ j, V.cell? ⟨g, j, none⟩ = w.cell? ⟨g, j, none⟩ := fun j => World.cell?_of_block hb
    have hf : ∀ j, V.frozen? ⟨g, j, none⟩ = w.frozen? ⟨g, j, none⟩ := fun j => by unfold World.frozen?; rw [hb]
    exact .inr ⟨g, o, c, rfl, h.le, ⟨Nat.lt_of_lt_of_le h.rm.lt m.size, h.rm.mx, fun j hj => by rw [hc]; exact h.rm.so j hj, fun j hj => by rw [hf]; exact h.rm.fz j hj⟩, fun j u hj => (hc _).trans (h.ra j u hj)⟩
theorem SV.shape {w : World} {v : Value} {l : List Rr} (h : SV w v l) : ∃ p c, v = .slice p l.length c := by
  rcases h with ⟨rfl, rfl⟩ | ⟨g, o, c, rfl, _⟩
  · exact ⟨none, 0, rfl⟩
  · exact ⟨_, _, rfl⟩
theorem SV.lt {w : World} {v : Value} {l : List Rr} (h : SV w v l) {k : Nat} (hk : nbk v = some k) : k < w.heap.size := by
  rcases h with ⟨rfl, rfl⟩ | ⟨g, o, c, rfl, h⟩
  · cases hk
  · cases hk; exact h.rm.lt
theorem SV.append {w : World} {v : Value} {l : List Rr} (h : SV w v l) {g2 : Nat} {x : Rr} (hx : RA w g2 0 [x]) (hl : l.length ≤ 400000) (c2 : Nat) :
    ∃ v' w', (Builtin.append_ #[199, 199] 199 #[v, slv g2 0 1 c2]).run Tryz.prog w = .ok v' w' ∧ SV w' v' (l ++ [x]) ∧ Mv (fun k => nbk v = some k) w w' ∧ (nbk v' = nbk v ∨ ∃ k, nbk v' = some k ∧ w.heap.size ≤ k) := by
  rcases h with ⟨rfl, rfl⟩ | ⟨g, o, c, rfl, h⟩
  · obtain ⟨g', c', w', hrun, hg, hrs, hb⟩ := app_nil (c2 := c2) hx (by simp) (by simp) 199
    exact ⟨_, w', hrun, .inr ⟨g', 0, c', rfl, hrs⟩, Mv.below hb, .inr ⟨g', rfl, hg⟩⟩
  · by_cases hroom : l.length + 1 ≤ c
    · obtain ⟨V', hrun, hrs, hc⟩ := app_room h (c2 := c2) hx hroom 199
      exact ⟨_, V', hrun, .inr ⟨g, o, c, by rw [List.length_append], hrs⟩, hc.mv.mono (fun k _ s => by obtain ⟨j, e, _⟩ := s; subst e; rfl), .inl rfl⟩
    · obtain ⟨g', c', V', hrun, hg, hrs, hb⟩ := app_grow h (c2 := c2) hx (by simp; omega) (by omega) (by simp) 199
      exact ⟨_, V', hrun, .inr ⟨g', 0, c', by rw [List.length_append], hrs⟩, Mv.below hb, .inr ⟨g', rfl, hg⟩⟩
theorem RS.drop {w : World} {g o c : Nat} {L : List Rr} (h : RS w g o c L) {k : Nat} (hk : k ≤ L.length) : RS w g (if c = k then o else o + k * 3) (c - k) (L.drop k) := by
  have hle := h.le
  have ha := (RA.app.1 (by rw [List.take_append_drop]; exact h.ra : RA w g o (L.take k ++ L.drop k))).2
  rw [List.length_take, Nat.min_eq_left hk] at ha
  by_cases hc : c = k
  · rw [if_pos hc]
    have e : L.drop k = [] := List.drop_eq_nil_of_le (by omega)
    rw [e]
    exact ⟨by simp, ⟨h.rm.lt, by have := h.rm.mx; omega, fun j hj => by omega, fun j hj => by omega⟩, RA.nil _ _ _⟩
  · rw [if_neg hc]
    exact ⟨by rw [List.length_drop]; omega, h.rm.sub (by omega), ha⟩
theorem RS.take {w : World} {g o c : Nat} {L : List Rr} (h : RS w g o c L) (k : Nat) : RS w g o c (L.take k) :=
  ⟨Nat.le_trans (by rw [List.length_take]; omega) h.le, h.rm, (RA.app.1 (by rw [List.take_append_drop]; exact h.ra : RA w g o (L.take k ++ L.drop k))).1⟩
theorem slice_lo {w : World} {v : Value} {L : List Rr} (h : SV w v L) {k : Nat} (hk : k ≤ L.length) :
    ∃ dv, (∀ W, (Instr.slice 199 v (some (.int .i64 k)) none none).run Tryz.prog W = .ok dv W) ∧ SV w dv (L.drop k) ∧ ∀ b, nbk dv = some b → nbk v = some b := by
  obtain ⟨i0, hi, hz0, hz1, hz2⟩ := infoT
  rcases h with ⟨rfl, rfl⟩ | ⟨g, o, c, rfl, h⟩
  · have : k = 0 := by simpa using hk
    subst this
    refine ⟨.slice none 0 0, fun W => ?_, .inl ⟨rfl, rfl⟩, fun _ h => h⟩
    simp [Instr.slice, Instr.sliceBounds, Instr.sliceBound, run_underlying Tryz.underlying199, sizeOf, typeInfo, hi, asIntOf]
  · have hle := h.le
    refine ⟨slv g (if c = k then o else o + k * 3) (L.length - k) (c - k), fun W => ?_, .inr ⟨_, _, _, by rw [List.length_drop], h.drop hk⟩, fun _ h => h⟩
    by_cases e : c = k
    · simp [Instr.slice, Instr.sliceBounds, Instr.sliceBound, run_underlying Tryz.underlying199, sizeOf, typeInfo, hi, asIntOf, hz1, e, Addr.add_lit]; intro z; omega
    · simp [Instr.slice, Instr.sliceBounds, Instr.sliceBound, run_underlying Tryz.underlying199, sizeOf, typeInfo, hi, asIntOf, hz1, e, Addr.add_lit]; intro z; omega
theorem slice_hi {w : World} {v : Value} {L : List Rr} (h : SV w v L) {k : Nat} (hk : k ≤ L.length) :
    ∃ dv, (∀ W, (Instr.slice 199 v none (some (.int .i64 k)) none).run Tryz.prog W = .ok dv W) ∧ SV w dv (L.take k) := by
  obtain ⟨i0, hi, hz0, hz1, hz2⟩ := infoT
  rcases h with ⟨rfl, rfl⟩ | ⟨g, o, c, rfl, h⟩
  · have : k = 0 := by simpa using hk
    subst this
    refine ⟨.slice none 0 0, fun W => ?_, .inl ⟨rfl, rfl⟩⟩
    simp [Instr.slice, Instr.sliceBounds, Instr.sliceBound, run_underlying Tryz.underlying199, sizeOf, typeInfo, hi, asIntOf]
  · have hle := h.le
    refine ⟨slv g o k c, fun W => ?_, .inr ⟨_, _, _, by rw [List.length_take, Nat.min_eq_left hk], h.take k⟩⟩
    by_cases e : c = 0
    · have : k = 0 := by omega
      subst this
      simp [Instr.slice, Instr.sliceBounds, Instr.sliceBound, run_underlying Tryz.underlying199, sizeOf, typeInfo, hi, asIntOf, e]
    · simp [Instr.slice, Instr.sliceBounds, Instr.sliceBound, run_underlying Tryz.underlying199, sizeOf, typeInfo, hi, asIntOf, e, Addr.add_lit]; intro z; omega
theorem app_nn (w : World) (p : Option Addr) (c2 : Nat) (ty : TypeId) :
    (Builtin.append_ #[199, 199] ty #[.slice none 0 0, .slice p 0 c2]).run Tryz.prog w = .ok (.slice none 0 0) w := by
  obtain ⟨i0, hi, hz0, hz1, hz2⟩ := infoT
  cases p <;> simp [Builtin.append_, run_underlying Tryz.underlying199, sizeOf, typeInfo, hi, Builtin.lenOf, Builtin.firstCells, loadCells, loadCellsFrom]
/-- append(a, b...). -/
theorem SV.cat {w : World} {v v2 : Value} {l l2 : List Rr} (h : SV w v l) (h2 : SV w v2 l2) (hl : l.length ≤ 400000) (hl2 : l2.length ≤ 400000) :
    ∃ v' w', (Builtin.append_ #[199, 199] 199 #[v, v2]).run Tryz.prog w = .ok v' w' ∧ SV w' v' (l ++ l2) ∧ Mv (fun k => nbk v = some k) w w' ∧ (nbk v' = nbk v ∨ ∃ k, nbk v' = some k ∧ w.heap.size ≤ k) := by
  by_cases e2 : l2 = []
  · subst e2
    obtain ⟨p2, c2, rfl⟩ := h2.shape
    rw [List.append_nil]
    rcases h with ⟨rfl, rfl⟩ | ⟨g, o, c, rfl, h⟩
    · exact ⟨_, w, app_nn w p2 c2 _, .inl ⟨rfl, rfl⟩, Mv.refl _ _, .inl rfl⟩
    · exact ⟨_, w, app_none h p2 c2 _, .inr ⟨g, o, c, rfl, h⟩, Mv.refl _ _, .inl rfl⟩
  · obtain ⟨g2, o2, c2, rfl, r2⟩ := h2.resolve_left (fun z => e2 z.2)
    rcases h with ⟨rfl, rfl⟩ | ⟨g, o, c, rfl, h⟩
    · obtain ⟨g', c', w', hrun, hg, hrs, hb⟩ := app_nil (c2 := c2) r2.ra e2 (by omega) 199
      exact ⟨_, w', hrun, .inr ⟨g', 0, c', rfl, hrs⟩, Mv.below hb, .inr ⟨g', rfl, hg⟩⟩
    · by_cases hroom : l.length + l2.length ≤ c
      · obtain ⟨V', hrun, hrs, hc⟩ := app_room h (c2 := c2) r2.ra hroom 199
        exact ⟨_, V', hrun, .inr ⟨g, o, c, by rw [List.length_append], hrs⟩, hc.mv.mono (fun k _ s => by obtain ⟨j, e, _⟩ := s; subst e; rfl), .inl rfl⟩
      · obtain ⟨g', c', V', hrun, hg, hrs, hb⟩ := app_grow h (c2 := c2) r2.ra (by omega) (by omega) (by omega) 199
        exact ⟨_, V', hrun, .inr ⟨g', 0, c', by rw [List.length_append], hrs⟩, Mv.below hb, .inr ⟨g', rfl, hg⟩⟩
/-- One more behind it. -/
theorem SV.push {W : World} {v : Value} {l : List Rr} (h : SV W v l) (x : Rr) (hl : l.length ≤ 300000) {B : Nat} (hB : W.heap.size = B) :
    ∃ v' W', (Builtin.append_ #[199, 199] 199 #[v, .slice (some ⟨B, 0, none⟩) 1 1]).run Tryz.prog (W.alloc (.cells #[.int .i64 x.k, .bool x.t, .slice x.p x.n x.c] 202)) = .ok v' W' ∧ SV W' v' (l ++ [x]) ∧ Mv (fun k => nbk v = some k) W W' ∧ (nbk v' = nbk v ∨ ∃ k, nbk v' = some k ∧ W.heap.size ≤ k) := by
  subst hB
  obtain ⟨A, hA⟩ : ∃ A, W.alloc (.cells #[.int .i64 x.k, .bool x.t, .slice x.p x.n x.c] 202) = A := ⟨_, rfl⟩
  have bA : Below W.heap.size W A := by rw [← hA]; exact (Below.refl _ _).alloc (Nat.le_refl _) _
  have hx : RA A W.heap.size 0 [x] := fun j z hj => by
    rw [Nat.zero_add, ← hA]
    refine cell_at rfl ?_
    match j, hj with
    | 0, hj => exact hj
    | 1, hj => exact hj
    | 2, hj => exact hj
    | j + 3, hj => simp [flat] at hj
  obtain ⟨v2, W2, hr2, sv2, mv2, at2⟩ := (h.mv (F := fun _ => False) (Mv.below bA) (fun _ _ h => h)).append hx (by omega) 1
  rw [hA]
  refine ⟨v2, W2, hr2, sv2, (Mv.below bA).trans' mv2, at2.imp id ?_⟩
  rintro ⟨k, e, hk⟩
  exact ⟨k, e, Nat.le_trans bA.size hk⟩
end Go.Proofs.YtedgnigogkmgkaaGreatDoor.Rw
