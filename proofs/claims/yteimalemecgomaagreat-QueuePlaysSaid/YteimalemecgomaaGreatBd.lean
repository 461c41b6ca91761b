import Derived.Test.YteimalemecgomaaGreatKZB
/- QueuePlays: the match. -/
namespace Go.Proofs.YteimalemecgomaaGreat
open Go.RowKit Go.Shelf Go.Lib
attribute [local go_sem] Oper.semAt_some
set_option maxRecDepth 100000 in
set_option maxHeartbeats 1000000 in
theorem match_any {br : Nat} {r : Int} (x : Int × Int) (W : World) (c : W.cell? ⟨br, 0, none⟩ = some (.int .i64 r)) : Calls Tryz.prog 10 #[Qt.ev x, .pointer (some ⟨br, 0, none⟩)] W fun e V => e = .returned (.bool (x.2.tmod 3 == r)) ∧ Below W.heap.size W V := by
  obtain ⟨V, hV⟩ : ∃ V, W.alloc (.cells #[.int .i64 x.1, .int .i64 x.2] 27) = V := ⟨_, rfl⟩
  have b : Below W.heap.size W V := by rw [← hV]; exact (Below.refl _ _).alloc (Nat.le_refl _) _
  obtain ⟨n, hn⟩ : ∃ n, W.heap.size = n := ⟨_, rfl⟩
  have c1 : V.cell? ⟨n, 1, none⟩ = some (.int .i64 x.2) := by rw [← hV]; exact cell_at hn rfl
  have c2 : V.cell? ⟨br, 0, none⟩ = some (.int .i64 r) := bcell b (cell_lt c) c
  have fin := hidP b
  have hw : IntKind.i64.wrap (x.2.tmod 3) = x.2.tmod 3 := by
    have h1 := Int.tmod_lt_of_pos x.2 (show (0 : Int) < 3 by decide)
    have h2 := Int.lt_tmod_of_pos x.2 (show (0 : Int) < 3 by decide)
    rw [IntKind.wrap_i64]; omega
  clear b c
  go_enter Tryz.func10, Tryz.ntmps10
  go_wp2_with (rw [hV])
  go_ret
  exact ⟨rfl, fin.out⟩
theorem match_eg : ∀ args w, (callFunc 10 args).run Tryz.prog w = .ok (.enter 10 args) w := enters_of Tryz.func10 (by kernel_rfl) rfl
end Go.Proofs.YteimalemecgomaaGreat
/- QueuePlays, plain: where the law lays a new one in its model. -/
namespace Go.Proofs.YteimalemecgomaaGreat
theorem insA_at {α : Type} (key : α → Int) (v : α) : ∀ (L : List α) (k : Nat), (∀ y ∈ L.drop k, key v < key y) → (∀ y ∈ L.take k, ¬ key v < key y) → insA key v L = L.take k ++ v :: L.drop k
  | [], k, _, _ => by simp [insA]
  | y :: L, 0, h, _ => by
    have := h y (List.mem_cons_self ..)
    simp [insA, this]
  | y :: L, k + 1, h, g => by
    have h0 : ¬ key v < key y := g y (by simp)
    have ih := insA_at key v L k (fun z hz => h z (by simpa using hz)) (fun z hz => g z (by simp [hz]))
    simp [insA, h0, ih]
theorem take_le {α : Type} (key : α → Int) (v : α) {L : List α} (so : L.Pairwise fun a b => key a ≤ key b) {k : Nat} {x : α} (hx : L[k]? = some x) (h : ¬ key v < key x) : ∀ y ∈ L.take (k + 1), ¬ key v < key y := fun y hy => by
  obtain ⟨i, hi, rfl⟩ := List.mem_iff_getElem.1 hy
  rw [List.length_take] at hi
  rw [List.getElem_take]
  obtain ⟨hk, rfl⟩ := List.getElem?_eq_some_iff.1 hx
  by_cases e : i = k
  · subst e; exact h
  · have := (List.pairwise_iff_getElem.1 so) i k (by omega) hk (by omega)
    omega
theorem Qt.sorted {nb : Nat} {key : Int × Int → Int} {w : World} {q : Nat} {E B : Nat → Prop} {L : List (Int × Int)} {n : Nat} (h : Qt.Qu nb key w q E B L n) : L.Pairwise fun a b => key a ≤ key b := by
  obtain ⟨v, xs, F, L', a1, a2, rfl, _⟩ := h
  rw [List.pairwise_map]
  refine a2.so.imp fun {a b} h => ?_
  rcases h with h | h
  · omega
  · have := h.1; omega
end Go.Proofs.YteimalemecgomaaGreat
/- QueuePlays: rows of items. -/
namespace Go.Proofs.YteimalemecgomaaGreat.Mi
open Go.RowKit Go.Shelf Go.Lib
def flat : List (Int × Int) → List Value
  | [] => []
  | x :: r => .int .i64 x.1 :: .int .i64 x.2 :: flat r
theorem flat_len : ∀ xs, (flat xs).length = xs.length * 2
  | [] => rfl
  | x :: r => by simp [flat, flat_len r]; omega
theorem flat_app : ∀ xs ys, flat (xs ++ ys) = flat xs ++ flat ys
  | [], _ => rfl
  | x :: r, ys => by simp [flat, flat_app r ys]
theorem flat_one : ∀ xs, ∀ u ∈ flat xs, u.oneCell' = true
  | [], u, h => by cases h
  | x :: r, u, h => by
    simp only [flat, List.mem_cons] at h
    rcases h with rfl | rfl | h
    · rfl
    · rfl
    · exact flat_one r u h
theorem flat_at : ∀ (xs : List (Int × Int)) (j : Nat) (x : (Int × Int)), xs[j]? = some x → (flat xs)[j * 2]? = some (.int .i64 x.1) ∧ (flat xs)[j * 2 + 1]? = some (.int .i64 x.2)
  | [], j, x, h => by cases h
  | y :: r, 0, x, h => by simp at h; subst h; exact ⟨rfl, rfl⟩
  | y :: r, j + 1, x, h => by
    have := flat_at r j x (by simpa using h)
    rw [show (j + 1) * 2 = j * 2 + 2 by omega, show j * 2 + 2 + 1 = j * 2 + 1 + 2 by omega]
    exact this
theorem infoT : ∃ i, Tryz.prog.info? 27 = some i ∧ i.zero = some (.agg #[.int .i64 0, .int .i64 0]) ∧ i.size = 2 ∧ i.bytes = 16 := by
  have h : (Tryz.prog.info? 27).map (fun i => (i.zero, i.size, i.bytes)) = some (some (.agg #[.int .i64 0, .int .i64 0]), 2, 16) := by kernel_rfl
  cases e : Tryz.prog.info? 27 with
  | none => rw [e] at h; cases h
  | some i => rw [e] at h; simp at h; exact ⟨i, rfl, h⟩

/-- The records xs lie in block g from o on. -/
def RA (w : World) (g o : Nat) (xs : List (Int × Int)) : Prop := ∀ j u, (flat xs)[j]? = some u → w.cell? ⟨g, o + j, none⟩ = some u
/-- There is room for cap records. -/
structure Rm (w : World) (g o cap : Nat) : Prop where
  lt : g < w.heap.size
  mx : cap ≤ maxLen
  so : ∀ j, j < cap * 2 → (w.cell? ⟨g, o + j, none⟩).isSome = true
  fz : ∀ j, j < cap * 2 → w.frozen? ⟨g, o + j, none⟩ = false
theorem RA.nil (w : World) (g o : Nat) : RA w g o [] := fun j u h => by cases h
theorem RA.cv {S : Nat → Nat → Prop} {w w' : World} {g o : Nat} {xs : List (Int × Int)} (h : RA w g o xs) (m : Cv S w w') (hn : ∀ j, o ≤ j → j < o + xs.length * 2 → ¬ S g j) : RA w' g o xs := fun j u hj => by
  have hl : j < xs.length * 2 := by rw [← flat_len]; exact (List.getElem?_eq_some_iff.1 hj).1
  exact m.cell (hn _ (by omega) (by omega)) (h j u hj)
theorem Rm.cv {S : Nat → Nat → Prop} {w w' : World} {g o cap : Nat} (h : Rm w g o cap) (m : Cv S w w') : Rm w' g o cap :=
  ⟨Nat.lt_of_lt_of_le h.lt m.size, h.mx, fun j hj => m.pr _ _ h.lt (h.so j hj), fun j hj => (m.fr _ _ h.lt).trans (h.fz j hj)⟩
theorem Rm.sub {w : World} {g o cap : Nat} (h : Rm w g o cap) {a c : Nat} (hc : a + c ≤ cap) : Rm w g (o + a * 2) c :=
  ⟨h.lt, Nat.le_trans (by omega) h.mx, fun j hj => by rw [Nat.add_assoc]; exact h.so _ (by omega), fun j hj => by rw [Nat.add_assoc]; exact h.fz _ (by omega)⟩
theorem RA.app {w : World} {g o : Nat} {xs ys : List (Int × Int)} : RA w g o (xs ++ ys) ↔ RA w g o xs ∧ RA w g (o + xs.length * 2) ys := by
  unfold RA
  rw [flat_app]
  constructor
  · intro h
    refine ⟨fun j u hj => h j u (by rw [List.getElem?_append_left (List.getElem?_eq_some_iff.1 hj).1]; exact hj), fun j u hj => ?_⟩
    rw [Nat.add_assoc]
    exact h _ u (by rw [List.getElem?_append_right (by rw [flat_len]; omega), flat_len, show xs.length * 2 + j - xs.length * 2 = j by omega]; exact hj)
  · rintro ⟨h1, h2⟩ j u hj
    rcases Nat.lt_or_ge j (xs.length * 2) with hl | hl
    · exact h1 j u (by rw [List.getElem?_append_left (by rw [flat_len]; exact hl)] at hj; exact hj)
    · rw [List.getElem?_append_right (by rw [flat_len]; exact hl), flat_len] at hj
      have := h2 _ u hj
      rw [Nat.add_assoc, show xs.length * 2 + (j - xs.length * 2) = j by omega] at this
      exact this
theorem RA.at {w : World} {g o : Nat} {xs : List (Int × Int)} (h : RA w g o xs) {j : Nat} {x : (Int × Int)} (hx : xs[j]? = some x) :
    w.cell? ⟨g, o + j * 2, none⟩ = some (.int .i64 x.1) ∧ w.cell? ⟨g, o + j * 2 + 1, none⟩ = some (.int .i64 x.2) := by
  obtain ⟨h1, h2⟩ := flat_at xs j x hx
  exact ⟨h _ _ h1, h _ _ h2⟩
/-- A slice of records. -/
structure RS (w : World) (g o cap : Nat) (xs : List (Int × Int)) : Prop where
  le : xs.length ≤ cap
  rm : Rm w g o cap
  ra : RA w g o xs
abbrev slv (g o n cap : Nat) : Value := .slice (some ⟨g, o, none⟩) n cap
theorem RS.cv {S : Nat → Nat → Prop} {w w' : World} {g o cap : Nat} {xs : List (Int × Int)} (h : RS w g o cap xs) (m : Cv S w w') (hn : ∀ j, o ≤ j → j < o + xs.length * 2 → ¬ S g j) : RS w' g o cap xs := ⟨h.le, h.rm.cv m, h.ra.cv m hn⟩
theorem RS.own {w : World} {v : Value} {base : Nat} {e : TypeId} {xs : List (Int × Int)} (h : w.ownsRow base e 2 v xs.length (flat xs)) (h0 : xs ≠ []) : ∃ g cap, v = slv g 0 xs.length cap ∧ base ≤ g ∧ RS w g 0 cap xs := by
  rcases h.2 with ⟨rfl, h1⟩ | ⟨g, cap, cur, rfl, hb, hg, h1, h2, h3, h4⟩
  · exact absurd (List.eq_nil_of_length_eq_zero h1) h0
  · refine ⟨g, cap, rfl, hb, h1, ⟨(Array.getElem?_eq_some_iff.1 hg).1, h2, fun j hj => ?_, fun j hj => ?_⟩, fun j x hx => ?_⟩
    · unfold World.cell?
      rw [hg]
      have : j < cur.size := by rw [h3]; omega
      simp [this]
    · unfold World.frozen?
      rw [hg]
      simp
    · have := h.cells (g := g) rfl j x hx
      rw [Addr.add_lit] at this
      exact this
theorem app_room {w : World} {g o cap : Nat} {xs ys : List (Int × Int)} (h : RS w g o cap xs) {g2 o2 c2 : Nat} (hy : RA w g2 o2 ys) (hr : xs.length + ys.length ≤ cap) (ty : TypeId) :
    ∃ w', (Builtin.append_ #[29, 29] ty #[slv g o xs.length cap, slv g2 o2 ys.length c2]).run Tryz.prog w = .ok (slv g o (xs.length + ys.length) cap) w' ∧ RS w' g o cap (xs ++ ys) ∧ Cv (fun k j => k = g ∧ o + xs.length * 2 ≤ j ∧ j < o + (xs.length + ys.length) * 2) w w' := by
  obtain ⟨i0, hi, hz0, hz1, hz2⟩ := infoT
  have hrun := run_append_room_cells (P := Tryz.prog) w 29 ty 27 _ Tryz.underlying29 hi g o xs.length cap ⟨g2, o2, none⟩ ys.length c2 (flat ys) (by rw [hz1, flat_len]) (fun j u hj => by rw [Addr.add_lit]; exact hy j u hj) (flat_one ys) hr (fun j hj => by rw [flat_len] at hj; rw [hz1, Nat.add_assoc]; exact h.rm.so _ (by omega)) (fun j hj => by rw [flat_len] at hj; rw [hz1, Nat.add_assoc]; exact h.rm.fz _ (by omega))
  rw [hz1] at hrun
  have hth : ∀ j, j < (flat ys).length → (w.cell? ⟨g, o + xs.length * 2 + j, none⟩).isSome = true := fun j hj => by rw [flat_len] at hj; rw [Nat.add_assoc]; exact h.rm.so _ (by omega)
  have m := Cv.cells w g (o + xs.length * 2) (flat ys)
  rw [flat_len] at m
  have m2 : Cv (fun k j => k = g ∧ o + xs.length * 2 ≤ j ∧ j < o + (xs.length + ys.length) * 2) w (w.setCells g (o + xs.length * 2) (flat ys)) := m.mono fun k j _ h => ⟨h.1, h.2.1, by have := h.2.2; omega⟩
  refine ⟨_, hrun, ⟨by rw [List.length_append]; exact hr, h.rm.cv m2, RA.app.2 ⟨h.ra.cv m2 (fun j _ hj q => by have := q.2.1; omega), fun j u hj => ?_⟩⟩, m2⟩
  obtain ⟨hlt, hge⟩ := List.getElem?_eq_some_iff.1 hj
  rw [World.cell?_setCells_in g _ _ w hth j hlt, hge]
theorem app_grow {w : World} {g o cap : Nat} {xs ys : List (Int × Int)} (h : RS w g o cap xs) {g2 o2 c2 : Nat} (hy : RA w g2 o2 ys) (hr : cap < xs.length + ys.length) (hx : xs.length ≤ 1000000) (hyl : ys.length ≤ 1000000) (ty : TypeId) :
    ∃ g' c' w', (Builtin.append_ #[29, 29] ty #[slv g o xs.length cap, slv g2 o2 ys.length c2]).run Tryz.prog w = .ok (slv g' 0 (xs.length + ys.length) c') w' ∧ w.heap.size ≤ g' ∧ RS w' g' 0 c' (xs ++ ys) ∧ Below w.heap.size w w' := by
  obtain ⟨i0, hi, hz0, hz1, hz2⟩ := infoT
  obtain ⟨v', w', hrun, ho, hgr⟩ := run_append_arg_grows (P := Tryz.prog) w 29 ty 27 _ _ 2 16 Tryz.underlying29 hi hz0 hz1 hz2 rfl (by decide) ⟨g, o, none⟩ xs.length cap (flat xs) (flat_len xs) (fun j u hj => by rw [Addr.add_lit]; exact h.ra j u hj) ⟨g2, o2, none⟩ ys.length c2 (flat ys) (flat_len ys) (fun j u hj => by rw [Addr.add_lit]; exact hy j u hj) hr (by unfold maxLen; omega) (by omega)
  rw [← flat_app, ← List.length_append] at ho
  obtain ⟨g', c', rfl, hb, hs⟩ := RS.own ho (by intro e; have := congrArg List.length e; rw [List.length_append, List.length_nil] at this; omega)
  rw [List.length_append] at hrun
  exact ⟨g', c', w', hrun, hb, hs, ((Mv.refl (fun _ => False) w).grown hgr (fun k e => by cases e)).toBelow (Nat.le_refl _) (fun _ _ h => h)⟩
theorem app_nil {w : World} {ys : List (Int × Int)} {g2 o2 c2 : Nat} (hy : RA w g2 o2 ys) (hy0 : ys ≠ []) (hyl : ys.length ≤ 1000000) (ty : TypeId) :
    ∃ g' c' w', (Builtin.append_ #[29, 29] ty #[.slice none 0 0, slv g2 o2 ys.length c2]).run Tryz.prog w = .ok (slv g' 0 ys.length c') w' ∧ w.heap.size ≤ g' ∧ RS w' g' 0 c' ys ∧ Below w.heap.size w w' := by
  obtain ⟨i0, hi, hz0, hz1, hz2⟩ := infoT
  obtain ⟨v', w', hrun, ho, hgr, _, hat⟩ := run_append_own_at (P := Tryz.prog) w w.heap.size 29 ty 27 _ _ 2 16 Tryz.underlying29 hi hz0 hz1 hz2 rfl (by decide) (.slice none 0 0) 0 [] (World.ownsRow_nil w _ _ _) ⟨g2, o2, none⟩ ys.length c2 (flat ys) (flat_len ys) (fun j u hj => by rw [Addr.add_lit]; exact hy j u hj) (flat_one ys) (by unfold maxLen; omega) (by omega) (Nat.le_refl _)
  rw [Nat.zero_add, List.nil_append] at ho
  obtain ⟨g', c', rfl, hb, hs⟩ := RS.own ho hy0
  exact ⟨g', c', w', hrun, hb, hs, ((Mv.refl (fun _ => False) w).grown hgr (fun k e => by cases e)).toBelow (Nat.le_refl _) (fun _ _ h => h)⟩
theorem app_none {w : World} {g o cap : Nat} {xs : List (Int × Int)} (h : RS w g o cap xs) (p : Option Addr) (c2 : Nat) (ty : TypeId) :
    (Builtin.append_ #[29, 29] ty #[slv g o xs.length cap, .slice p 0 c2]).run Tryz.prog w = .ok (slv g o xs.length cap) w := by
  obtain ⟨i0, hi, hz0, hz1, hz2⟩ := infoT
  have hle := h.le
  cases p <;> simp [Builtin.append_, run_underlying Tryz.underlying29, sizeOf, typeInfo, hi, Builtin.lenOf, Builtin.firstCells, loadCells, loadCellsFrom, storeCells, hle]
/-- A slice of records, nil or not. -/
def SV (w : World) (v : Value) (l : List (Int × Int)) : Prop := (v = .slice none 0 0 ∧ l = []) ∨ ∃ g o c, v = slv g o l.length c ∧ RS w g o c l
theorem SV.mv {F : Nat → Prop} {w V : World} {v : Value} {l : List (Int × Int)} (h : SV w v l) (m : Mv F w V) (hF : ∀ k, Qt.nbk v = some k → ¬ F k) : SV V v l := by
  rcases h with h | ⟨g, o, c, rfl, h⟩
  · exact .inl h
  · have hb := m.block g h.rm.lt (hF g rfl)
    have hc : ∀ j, V.cell? ⟨g, j, none⟩ = w.cell? ⟨g, j, none⟩ := fun j => World.cell?_of_block hb
    have hf : ∀ j, V.frozen? ⟨g, j, none⟩ = w.frozen? ⟨g, j, none⟩ := fun j => by unfold World.frozen?; rw [hb]
    exact .inr ⟨g, o, c, rfl, h.le, ⟨Nat.lt_of_lt_of_le h.rm.lt m.size, h.rm.mx, fun j hj => by rw [hc]; exact h.rm.so j hj, fun j hj => by rw [hf]; exact h.rm.fz j hj⟩, fun j u hj => (hc _).trans (h.ra j u hj)⟩
theorem SV.shape {w : World} {v : Value} {l : List (Int × Int)} (h : SV w v l) : ∃ p c, v = .slice p l.length c := by
  rcases h with ⟨rfl, rfl⟩ | ⟨g, o, c, rfl, _⟩
  · exact ⟨none, 0, rfl⟩
  · exact ⟨_, _, rfl⟩
theorem SV.lt {w : World} {v : Value} {l : List (Int × Int)} (h : SV w v l) {k : Nat} (hk : Qt.nbk v = some k) : k < w.heap.size := by
  rcases h with ⟨rfl, rfl⟩ | ⟨g, o, c, rfl, h⟩
  · cases hk
  · cases hk; exact h.rm.lt
theorem SV.append {w : World} {v : Value} {l : List (Int × Int)} (h : SV w v l) {g2 : Nat} {x : (Int × Int)} (hx : RA w g2 0 [x]) (hl : l.length ≤ 400000) (c2 : Nat) :
    ∃ v' w', (Builtin.append_ #[29, 29] 29 #[v, slv g2 0 1 c2]).run Tryz.prog w = .ok v' w' ∧ SV w' v' (l ++ [x]) ∧ Mv (fun k => Qt.nbk v = some k) w w' ∧ (Qt.nbk v' = Qt.nbk v ∨ ∃ k, Qt.nbk v' = some k ∧ w.heap.size ≤ k) := by
  rcases h with ⟨rfl, rfl⟩ | ⟨g, o, c, rfl, h⟩
  · obtain ⟨g', c', w', hrun, hg, hrs, hb⟩ := app_nil (c2 := c2) hx (by simp) (by simp) 29
    exact ⟨_, w', hrun, .inr ⟨g', 0, c', rfl, hrs⟩, Mv.below hb, .inr ⟨g', rfl, hg⟩⟩
  · by_cases hroom : l.length + 1 ≤ c
    · obtain ⟨V', hrun, hrs, hc⟩ := app_room h (c2 := c2) hx hroom 29
      exact ⟨_, V', hrun, .inr ⟨g, o, c, by rw [List.length_append], hrs⟩, hc.mv.mono (fun k _ s => by obtain ⟨j, e, _⟩ := s; subst e; rfl), .inl rfl⟩
    · obtain ⟨g', c', V', hrun, hg, hrs, hb⟩ := app_grow h (c2 := c2) hx (by simp; omega) (by omega) (by simp) 29
      exact ⟨_, V', hrun, .inr ⟨g', 0, c', by rw [List.length_append], hrs⟩, Mv.below hb, .inr ⟨g', rfl, hg⟩⟩
end Go.Proofs.YteimalemecgomaaGreat.Mi
/- QueuePlays: the model's rows; the queue beside what the law keeps. -/
namespace Go.Proofs.YteimalemecgomaaGreat.Mi
open Go.RowKit Go.Shelf Go.Lib
theorem app_nn (w : World) (p : Option Addr) (c2 : Nat) (ty : TypeId) :
    (Builtin.append_ #[29, 29] ty #[.slice none 0 0, .slice p 0 c2]).run Tryz.prog w = .ok (.slice none 0 0) w := by
  obtain ⟨i0, hi, hz0, hz1, hz2⟩ := infoT
  cases p <;> simp [Builtin.append_, run_underlying Tryz.underlying29, sizeOf, typeInfo, hi, Builtin.lenOf, Builtin.firstCells, loadCells, loadCellsFrom]
/-- append(a, b...). -/
theorem SV.cat {w : World} {v v2 : Value} {l l2 : List (Int × Int)} (h : SV w v l) (h2 : SV w v2 l2) (hl : l.length ≤ 400000) (hl2 : l2.length ≤ 400000) :
    ∃ v' w', (Builtin.append_ #[29, 29] 29 #[v, v2]).run Tryz.prog w = .ok v' w' ∧ SV w' v' (l ++ l2) ∧ Mv (fun k => Qt.nbk v = some k) w w' ∧ (Qt.nbk v' = Qt.nbk v ∨ ∃ k, Qt.nbk v' = some k ∧ w.heap.size ≤ k) := by
  by_cases e2 : l2 = []
  · subst e2
    obtain ⟨p2, c2, rfl⟩ := h2.shape
    rw [List.append_nil]
    rcases h with ⟨rfl, rfl⟩ | ⟨g, o, c, rfl, h⟩
    · exact ⟨_, w, app_nn w p2 c2 _, .inl ⟨rfl, rfl⟩, Mv.refl _ _, .inl rfl⟩
    · exact ⟨_, w, app_none h p2 c2 _, .inr ⟨g, o, c, rfl, h⟩, Mv.refl _ _, .inl rfl⟩
  · obtain ⟨g2, o2, c2, rfl, r2⟩ := h2.resolve_left (fun z => e2 z.2)
    rcases h with ⟨rfl, rfl⟩ | ⟨g, o, c, rfl, h⟩
    · obtain ⟨g', c', w', hrun, hg, hrs, hb⟩ := app_nil (c2 := c2) r2.ra e2 (by omega) 29
      exact ⟨_, w', hrun, .inr ⟨g', 0, c', rfl, hrs⟩, Mv.below hb, .inr ⟨g', rfl, hg⟩⟩
    · by_cases hroom : l.length + l2.length ≤ c
      · obtain ⟨V', hrun, hrs, hc⟩ := app_room h (c2 := c2) r2.ra hroom 29
        exact ⟨_, V', hrun, .inr ⟨g, o, c, by rw [List.length_append], hrs⟩, hc.mv.mono (fun k _ s => by obtain ⟨j, e, _⟩ := s; subst e; rfl), .inl rfl⟩
      · obtain ⟨g', c', V', hrun, hg, hrs, hb⟩ := app_grow h (c2 := c2) r2.ra (by omega) (by omega) (by omega) 29
        exact ⟨_, V', hrun, .inr ⟨g', 0, c', by rw [List.length_append], hrs⟩, Mv.below hb, .inr ⟨g', rfl, hg⟩⟩
theorem RS.take {w : World} {g o c : Nat} {L : List (Int × Int)} (h : RS w g o c L) (k : Nat) : RS w g o c (L.take k) :=
  ⟨Nat.le_trans (by rw [List.length_take]; omega) h.le, h.rm, (RA.app.1 (by rw [List.take_append_drop]; exact h.ra : RA w g o (L.take k ++ L.drop k))).1⟩
theorem RS.drop {w : World} {g o c : Nat} {L : List (Int × Int)} (h : RS w g o c L) {k : Nat} (hk : k ≤ L.length) : RS w g (if c = k then o else o + k * 2) (c - k) (L.drop k) := by
  have hle := h.le
  have ha := (RA.app.1 (by rw [List.take_append_drop]; exact h.ra : RA w g o (L.take k ++ L.drop k))).2
  rw [List.length_take, Nat.min_eq_left hk] at ha
  by_cases hc : c = k
  · rw [if_pos hc]
    have e : L.drop k = [] := List.drop_eq_nil_of_le (by omega)
    rw [e]
    exact ⟨by simp, ⟨h.rm.lt, by have := h.rm.mx; omega, fun j hj => by omega, fun j hj => by omega⟩, RA.nil _ _ _⟩
  · rw [if_neg hc]
    exact ⟨by rw [List.length_drop]; omega, h.rm.sub (by omega), ha⟩
end Go.Proofs.YteimalemecgomaaGreat.Mi
namespace Go.Proofs.YteimalemecgomaaGreat
open Go.RowKit Go.Shelf Go.Lib
abbrev LN : Nat := 6
/-- The queue, apart from what is kept (Pf). -/
def Qh (w0 : World) (Pf : Nat → Prop) (W : World) (q : Nat) (L : List (Int × Int)) (n : Nat) : Prop :=
  ∃ E B, Qt.Qu LN (fun x => x.1) W q E B L n ∧ (∀ k, E k ∨ B k → w0.heap.size ≤ k ∧ ¬ Pf k) ∧ (∀ k, Pf k → k < W.heap.size) ∧ Below w0.heap.size w0 W
theorem Qh.go {w0 W : World} {Pf : Nat → Prop} {q : Nat} {L L' : List (Int × Int)} {n n' f : Nat} {args : Array Value} {R : Ending → Prop} (h : Qh w0 Pf W q L n) (hc : ∀ E B, Qt.Qu LN (fun x => x.1) W q E B L n → Calls Tryz.prog f args W fun e V => R e ∧ Qt.Qg LN (fun x => x.1) W q E B L' n' V) : Calls Tryz.prog f args W fun e V => R e ∧ Qh w0 Pf V q L' n' ∧ Mv (fun k => ¬ Pf k) W V := by
  obtain ⟨E, B, h1, h2, h3, h4⟩ := h
  refine (hc E B h1).mono ?_
  rintro e V ⟨hR, E', B', q1, q2, q3, q4⟩
  have sz := h4.size
  refine ⟨hR, ⟨E', B', q1, fun k hk => ?_, fun k hk => Nat.lt_of_lt_of_le (h3 k hk) q2.size, h4.trans (q2.toBelow h4.size (fun k hk e => by have := (h2 k (.inl e)).1; omega))⟩, q2.mono fun k _ e => (h2 k (.inl e)).2⟩
  have : (E k ∨ B k) ∨ W.heap.size ≤ k := by
    rcases hk with hk | hk
    · exact (q3 k hk).imp .inl id
    · exact (q4 k hk).imp .inr id
  rcases this with s | s
  · exact h2 k s
  · exact ⟨by omega, fun p => by have := h3 k p; omega⟩
theorem Qh.more {w0 W V : World} {Pf Pf' F : Nat → Prop} {q : Nat} {L : List (Int × Int)} {n : Nat} (h : Qh w0 Pf W q L n) (m : Mv F W V) (hF : ∀ k, F k → Pf k ∧ w0.heap.size ≤ k ∨ W.heap.size ≤ k) (hP : ∀ k, Pf' k → Pf k ∨ (W.heap.size ≤ k ∧ k < V.heap.size)) : Qh w0 Pf' V q L n := by
  obtain ⟨E, B, h1, h2, h3, h4⟩ := h
  obtain ⟨lE, lB⟩ := h1.lt
  have sz := h4.size
  have lEB : ∀ k, E k ∨ B k → k < W.heap.size := fun k hk => hk.elim (lE k) (lB k)
  have nF : ∀ k, E k ∨ B k → ¬ F k := fun k hk f => by
    rcases hF k f with s | s
    · exact (h2 k hk).2 s.1
    · have := lEB k hk; omega
  refine ⟨E, B, h1.mv m (fun k hk => nF k (.inl hk)) (fun k hk => nF k (.inr hk)), fun k hk => ⟨(h2 k hk).1, fun p => ?_⟩, fun k hk => ?_, h4.trans (m.toBelow h4.size (fun k hk f => ?_))⟩
  · rcases hP k p with s | s
    · exact (h2 k hk).2 s
    · have := lEB k hk; omega
  · rcases hP k hk with s | s
    · exact Nat.lt_of_lt_of_le (h3 k s) m.size
    · exact s.2
  · rcases hF k f with s | s <;> omega
theorem Qh.quiet {w0 W : World} {Pf : Nat → Prop} {q : Nat} {L : List (Int × Int)} {n f : Nat} {args : Array Value} {R : Ending → Prop} (h : Qh w0 Pf W q L n) (hc : ∀ E B, Qt.Qu LN (fun x => x.1) W q E B L n → Calls Tryz.prog f args W fun e V => R e ∧ Below W.heap.size W V) : Calls Tryz.prog f args W fun e V => R e ∧ Qh w0 Pf V q L n ∧ Below W.heap.size W V := by
  have hh := h
  obtain ⟨E, B, h1, _⟩ := h
  refine (hc E B h1).mono ?_
  rintro e V ⟨hR, b⟩
  exact ⟨hR, hh.more (F := fun _ => False) (Mv.below b) (fun _ f => f.elim) (fun k hk => .inl hk), b⟩
theorem Qh.len {w0 W : World} {Pf : Nat → Prop} {q : Nat} {L : List (Int × Int)} {n : Nat} (h : Qh w0 Pf W q L n) : Calls Tryz.prog 12 #[Qt.qp q] W fun e V => e = .returned (.int .i64 L.length) ∧ V = W := by
  obtain ⟨E, B, h1, _⟩ := h
  exact Qt.len_any h1
theorem Qh.sorted {w0 W : World} {Pf : Nat → Prop} {q : Nat} {L : List (Int × Int)} {n : Nat} (h : Qh w0 Pf W q L n) : L.Pairwise fun a b => a.1 ≤ b.1 := by
  obtain ⟨E, B, h1, _⟩ := h
  exact Qt.sorted h1
/-- All of the queue, told to a taker whose territory is kept. -/
theorem Qh.all {w0 W : World} {Pf : Nat → Prop} {q bl : Nat} {L : List (Int × Int)} {n : Nat} (h : Qh w0 Pf W q L n) (hbl : W.cell? ⟨bl, 0, none⟩ = some (Qt.qp q)) {f : Nat} {caps : Array Value} (eg : ∀ args w, (callFunc f args).run Tryz.prog w = .ok (.enter f args) w) {J : List (Int × Int) → (Nat → Prop) → World → Prop} {Jx : (Nat → Prop) → World → Prop} (tJ : Ter W.heap.size J) (hT : Qt.Tak f caps J Jx) {D : Nat → Prop} (h0 : J L D W) (hD : ∀ k, D k → Pf k ∧ w0.heap.size ≤ k) :
    Calls Tryz.prog 28 #[.func (.func f) #[] caps, .pointer (some ⟨bl, 0, none⟩)] W fun e V => e = .returned (.tuple #[]) ∧ Mv D W V ∧ (∃ D', Gr D W D' ∧ (J [] D' V ∨ Jx D' V)) ∧ ∀ Pf', (∀ k, Pf' k → Pf k ∨ (W.heap.size ≤ k ∧ k < V.heap.size)) → Qh w0 Pf' V q L n := by
  have hh := h
  obtain ⟨E, B, h1, h2, h3, h4⟩ := h
  refine (Qt.all_run bf_less h1 hbl eg tJ hT h0 (fun k hk d => (h2 k (.inr hk)).2 (hD k d).1)).mono ?_
  rintro e V ⟨rfl, m, D', g, hj⟩
  exact ⟨rfl, m, ⟨D', g, hj⟩, fun Pf' hP => hh.more m (fun k d => .inl (hD k d)) hP⟩
end Go.Proofs.YteimalemecgomaaGreat
