import Derived.Test.YtdcidlgmnnaahaaGreatBba
/- Rows of events. -/
namespace Go.Proofs.YtdcidlgmnnaahaaGreat.Me
open Go.RowKit Go.Shelf Go.Lib
def flat : List Wt → List Value
  | [] => []
  | x :: r => .int .i64 x.k :: .int .i64 x.p :: .int .i64 x.s :: .string x.u :: .string x.x :: flat r
theorem flat_len : ∀ xs, (flat xs).length = xs.length * 5
  | [] => rfl
  | x :: r => by simp [flat, flat_len r]; omega
theorem flat_app : ∀ xs ys, flat (xs ++ ys) = flat xs ++ flat ys
  | [], _ => rfl
  | x :: r, ys => by simp [flat, flat_app r ys]
theorem flat_one : ∀ xs, ∀ u ∈ flat xs, u.oneCell' = true
  | [], u, h => by cases h
  | x :: r, u, h => by
    simp only [flat, List.mem_cons] at h
    rcases h with rfl | rfl | rfl | rfl | rfl | h
    · rfl
    · rfl
    · rfl
    · rfl
    · rfl
    · exact flat_one r u h
theorem flat_at : ∀ (xs : List Wt) (j : Nat) (x : Wt), xs[j]? = some x → (flat xs)[j * 5]? = some (.int .i64 x.k) ∧ (flat xs)[j * 5 + 1]? = some (.int .i64 x.p) ∧ (flat xs)[j * 5 + 2]? = some (.int .i64 x.s) ∧ (flat xs)[j * 5 + 3]? = some (.string x.u) ∧ (flat xs)[j * 5 + 4]? = some (.string x.x)
  | [], j, x, h => by cases h
  | y :: r, 0, x, h => by simp at h; subst h; exact ⟨rfl, rfl, rfl, rfl, rfl⟩
  | y :: r, j + 1, x, h => by
    have := flat_at r j x (by simpa using h)
    rw [show (j + 1) * 5 = j * 5 + 5 by omega, show j * 5 + 5 + 1 = j * 5 + 1 + 5 by omega, show j * 5 + 5 + 2 = j * 5 + 2 + 5 by omega, show j * 5 + 5 + 3 = j * 5 + 3 + 5 by omega, show j * 5 + 5 + 4 = j * 5 + 4 + 5 by omega]
    exact this
theorem infoT : ∃ i, Tryz.prog.info? 32 = some i ∧ i.zero = some (.agg #[.int .i64 0, .int .i64 0, .int .i64 0, .string ⟨#[]⟩, .string ⟨#[]⟩]) ∧ i.size = 5 ∧ i.bytes = 56 := by
  have h : (Tryz.prog.info? 32).map (fun i => (i.zero, i.size, i.bytes)) = some (some (.agg #[.int .i64 0, .int .i64 0, .int .i64 0, .string ⟨#[]⟩, .string ⟨#[]⟩]), 5, 56) := by kernel_rfl
  cases e : Tryz.prog.info? 32 with
  | none => rw [e] at h; cases h
  | some i => rw [e] at h; simp at h; exact ⟨i, rfl, h⟩

/-- The records xs lie in block g from o on. -/
def RA (w : World) (g o : Nat) (xs : List Wt) : Prop := ∀ j u, (flat xs)[j]? = some u → w.cell? ⟨g, o + j, none⟩ = some u
/-- There is room for cap records. -/
structure Rm (w : World) (g o cap : Nat) : Prop where
  lt : g < w.heap.size
  mx : cap ≤ maxLen
  so : ∀ j, j < cap * 5 → (w.cell? ⟨g, o + j, none⟩).isSome = true
  fz : ∀ j, j < cap * 5 → w.frozen? ⟨g, o + j, none⟩ = false
theorem RA.nil (w : World) (g o : Nat) : RA w g o [] := fun j u h => by cases h
theorem RA.cv {S : Nat → Nat → Prop} {w w' : World} {g o : Nat} {xs : List Wt} (h : RA w g o xs) (m : Cv S w w') (hn : ∀ j, o ≤ j → j < o + xs.length * 5 → ¬ S g j) : RA w' g o xs := fun j u hj => by
  have hl : j < xs.length * 5 := by rw [← flat_len]; exact (List.getElem?_eq_some_iff.1 hj).1
  exact m.cell (hn _ (by omega) (by omega)) (h j u hj)
theorem Rm.cv {S : Nat → Nat → Prop} {w w' : World} {g o cap : Nat} (h : Rm w g o cap) (m : Cv S w w') : Rm w' g o cap :=
  ⟨Nat.lt_of_lt_of_le h.lt m.size, h.mx, fun j hj => m.pr _ _ h.lt (h.so j hj), fun j hj => (m.fr _ _ h.lt).trans (h.fz j hj)⟩
theorem Rm.sub {w : World} {g o cap : Nat} (h : Rm w g o cap) {a c : Nat} (hc : a + c ≤ cap) : Rm w g (o + a * 5) c :=
  ⟨h.lt, Nat.le_trans (by omega) h.mx, fun j hj => by rw [Nat.add_assoc]; exact h.so _ (by omega), fun j hj => by rw [Nat.add_assoc]; exact h.fz _ (by omega)⟩
theorem RA.app {w : World} {g o : Nat} {xs ys : List Wt} : RA w g o (xs ++ ys) ↔ RA w g o xs ∧ RA w g (o + xs.length * 5) ys := by
  unfold RA
  rw [flat_app]
  constructor
  · intro h
    refine ⟨fun j u hj => h j u (by rw [List.getElem?_append_left (List.getElem?_eq_some_iff.1 hj).1]; exact hj), fun j u hj => ?_⟩
    rw [Nat.add_assoc]
    exact h _ u (by rw [List.getElem?_append_right (by rw [flat_len]; omega), flat_len, show xs.length * 5 + j - xs.length * 5 = j by omega]; exact hj)
  · rintro ⟨h1, h2⟩ j u hj
    rcases Nat.lt_or_ge j (xs.length * 5) with hl | hl
    · exact h1 j u (by rw [List.getElem?_append_left (by rw [flat_len]; exact hl)] at hj; exact hj)
    · rw [List.getElem?_append_right (by rw [flat_len]; exact hl), flat_len] at hj
      have := h2 _ u hj
      rw [Nat.add_assoc, show xs.length * 5 + (j - xs.length * 5) = j by omega] at this
      exact this
theorem RA.at {w : World} {g o : Nat} {xs : List Wt} (h : RA w g o xs) {j : Nat} {x : Wt} (hx : xs[j]? = some x) :
    w.cell? ⟨g, o + j * 5, none⟩ = some (.int .i64 x.k) ∧ w.cell? ⟨g, o + j * 5 + 1, none⟩ = some (.int .i64 x.p) ∧ w.cell? ⟨g, o + j * 5 + 2, none⟩ = some (.int .i64 x.s) ∧ w.cell? ⟨g, o + j * 5 + 3, none⟩ = some (.string x.u) ∧ w.cell? ⟨g, o + j * 5 + 4, none⟩ = some (.string x.x) := by
  obtain ⟨h1, h2, h3, h4, h5⟩ := flat_at xs j x hx
  exact ⟨h _ _ h1, h _ _ h2, h _ _ h3, h _ _ h4, h _ _ h5⟩
/-- A slice of records. -/
structure RS (w : World) (g o cap : Nat) (xs : List Wt) : Prop where
  le : xs.length ≤ cap
  rm : Rm w g o cap
  ra : RA w g o xs
abbrev slv (g o n cap : Nat) : Value := .slice (some ⟨g, o, none⟩) n cap
theorem RS.cv {S : Nat → Nat → Prop} {w w' : World} {g o cap : Nat} {xs : List Wt} (h : RS w g o cap xs) (m : Cv S w w') (hn : ∀ j, o ≤ j → j < o + xs.length * 5 → ¬ S g j) : RS w' g o cap xs := ⟨h.le, h.rm.cv m, h.ra.cv m hn⟩
theorem RS.own {w : World} {v : Value} {base : Nat} {e : TypeId} {xs : List Wt} (h : w.ownsRow base e 5 v xs.length (flat xs)) (h0 : xs ≠ []) : ∃ g cap, v = slv g 0 xs.length cap ∧ base ≤ g ∧ RS w g 0 cap xs := by
  rcases h.2 with ⟨rfl, h1⟩ | ⟨g, cap, cur, rfl, hb, hg, h1, h2, h3, h4⟩
  · exact absurd (List.eq_nil_of_length_eq_zero h1) h0
  · refine ⟨g, cap, rfl, hb, h1, ⟨(Array.getElem?_eq_some_iff.1 hg).1, h2, fun j hj => ?_, fun j hj => ?_⟩, fun j x hx => ?_⟩
    · unfold World.cell?
      rw [hg]
      have : j < cur.size := by rw [h3]; omega
      simp [this]
    · unfold World.frozen?
      rw [hg]
      simp
    · have := h.cells (g := g) rfl j x hx
      rw [Addr.add_lit] at this
      exact this
theorem app_room {w : World} {g o cap : Nat} {xs ys : List Wt} (h : RS w g o cap xs) {g2 o2 c2 : Nat} (hy : RA w g2 o2 ys) (hr : xs.length + ys.length ≤ cap) (ty : TypeId) :
    ∃ w', (Builtin.append_ #[27, 27] ty #[slv g o xs.length cap, slv g2 o2 ys.length c2]).run Tryz.prog w = .ok (slv g o (xs.length + ys.length) cap) w' ∧ RS w' g o cap (xs ++ ys) ∧ Cv (fun k j => k = g ∧ o + xs.length * 5 ≤ j ∧ j < o + (xs.length + ys.length) * 5) w w' := by
  obtain ⟨i0, hi, hz0, hz1, hz2⟩ := infoT
  have hrun := run_append_room_cells (P := Tryz.prog) w 27 ty 32 _ Tryz.underlying27 hi g o xs.length cap ⟨g2, o2, none⟩ ys.length c2 (flat ys) (by rw [hz1, flat_len]) (fun j u hj => by rw [Addr.add_lit]; exact hy j u hj) (flat_one ys) hr (fun j hj => by rw [flat_len] at hj; rw [hz1, Nat.add_assoc]; exact h.rm.so _ (by omega)) (fun j hj => by rw [flat_len] at hj; rw [hz1, Nat.add_assoc]; exact h.rm.fz _ (by omega))
  rw [hz1] at hrun
  have hth : ∀ j, j < (flat ys).length → (w.cell? ⟨g, o + xs.length * 5 + j, none⟩).isSome = true := fun j hj => by rw [flat_len] at hj; rw [Nat.add_assoc]; exact h.rm.so _ (by omega)
  have m := Cv.cells w g (o + xs.length * 5) (flat ys)
  rw [flat_len] at m
  have m2 : Cv (fun k j => k = g ∧ o + xs.length * 5 ≤ j ∧ j < o + (xs.length + ys.length) * 5) w (w.setCells g (o + xs.length * 5) (flat ys)) := m.mono fun k j _ h => ⟨h.1, h.2.1, by have := h.2.2; omega⟩
  refine ⟨_, hrun, ⟨by rw [List.length_append]; exact hr, h.rm.cv m2, RA.app.2 ⟨h.ra.cv m2 (fun j _ hj q => by have := q.2.1; omega), fun j u hj => ?_⟩⟩, m2⟩
  obtain ⟨hlt, hge⟩ := List.getElem?_eq_some_iff.1 hj
  rw [World.cell?_setCells_in g _ _ w hth j hlt, hge]
theorem app_grow {w : World} {g o cap : Nat} {xs ys : List Wt} (h : RS w g o cap xs) {g2 o2 c2 : Nat} (hy : RA w g2 o2 ys) (hr : cap < xs.length + ys.length) (hx : xs.length ≤ 1000000) (hyl : ys.length ≤ 1000000) (ty : TypeId) :
    ∃ g' c' w', (Builtin.append_ #[27, 27] ty #[slv g o xs.length cap, slv g2 o2 ys.length c2]).run Tryz.prog w = .ok (slv g' 0 (xs.length + ys.length) c') w' ∧ w.heap.size ≤ g' ∧ RS w' g' 0 c' (xs ++ ys) ∧ Below w.heap.size w w' := by
  obtain ⟨i0, hi, hz0, hz1, hz2⟩ := infoT
  obtain ⟨v', w', hrun, ho, hgr⟩ := run_append_arg_grows (P := Tryz.prog) w 27 ty 32 _ _ 5 56 Tryz.underlying27 hi hz0 hz1 hz2 rfl (by decide) ⟨g, o, none⟩ xs.length cap (flat xs) (flat_len xs) (fun j u hj => by rw [Addr.add_lit]; exact h.ra j u hj) ⟨g2, o2, none⟩ ys.length c2 (flat ys) (flat_len ys) (fun j u hj => by rw [Addr.add_lit]; exact hy j u hj) hr (by unfold maxLen; omega) (by omega)
  rw [← flat_app, ← List.length_append] at ho
  obtain ⟨g', c', rfl, hb, hs⟩ := RS.own ho (by intro e; have := congrArg List.length e; rw [List.length_append, List.length_nil] at this; omega)
  rw [List.length_append] at hrun
  exact ⟨g', c', w', hrun, hb, hs, ((Mv.refl (fun _ => False) w).grown hgr (fun k e => by cases e)).toBelow (Nat.le_refl _) (fun _ _ h => h)⟩
theorem app_nil {w : World} {ys : List Wt} {g2 o2 c2 : Nat} (hy : RA w g2 o2 ys) (hy0 : ys ≠ []) (hyl : ys.length ≤ 1000000) (ty : TypeId) :
    ∃ g' c' w', (Builtin.append_ #[27, 27] ty #[.slice none 0 0, slv g2 o2 ys.length c2]).run Tryz.prog w = .ok (slv g' 0 ys.length c') w' ∧ w.heap.size ≤ g' ∧ RS w' g' 0 c' ys ∧ Below w.heap.size w w' := by
  obtain ⟨i0, hi, hz0, hz1, hz2⟩ := infoT
  obtain ⟨v', w', hrun, ho, hgr, _, hat⟩ := run_append_own_at (P := Tryz.prog) w w.heap.size 27 ty 32 _ _ 5 56 Tryz.underlying27 hi hz0 hz1 hz2 rfl (by decide) (.slice none 0 0) 0 [] (World.ownsRow_nil w _ _ _) ⟨g2, o2, none⟩ ys.length c2 (flat ys) (flat_len ys) (fun j u hj => by rw [Addr.add_lit]; exact hy j u hj) (flat_one ys) (by unfold maxLen; omega) (by omega) (Nat.le_refl _)
  rw [Nat.zero_add, List.nil_append] at ho
  obtain ⟨g', c', rfl, hb, hs⟩ := RS.own ho hy0
  exact ⟨g', c', w', hrun, hb, hs, ((Mv.refl (fun _ => False) w).grown hgr (fun k e => by cases e)).toBelow (Nat.le_refl _) (fun _ _ h => h)⟩
theorem app_none {w : World} {g o cap : Nat} {xs : List Wt} (h : RS w g o cap xs) (p : Option Addr) (c2 : Nat) (ty : TypeId) :
    (Builtin.append_ #[27, 27] ty #[slv g o xs.length cap, .slice p 0 c2]).run Tryz.prog w = .ok (slv g o xs.length cap) w := by
  obtain ⟨i0, hi, hz0, hz1, hz2⟩ := infoT
  have hle := h.le
  cases p <;> simp [Builtin.append_, run_underlying Tryz.underlying27, sizeOf, typeInfo, hi, Builtin.lenOf, Builtin.firstCells, loadCells, loadCellsFrom, storeCells, hle]
/-- A slice of records, nil or not. -/
def SV (w : World) (v : Value) (l : List Wt) : Prop := (v = .slice none 0 0 ∧ l = []) ∨ ∃ g o c, v = slv g o l.length c ∧ RS w g o c l
theorem SV.mv {F : Nat → Prop} {w V : World} {v : Value} {l : List Wt} (h : SV w v l) (m : Mv F w V) (hF : ∀ k, Qd.nbk v = some k → ¬ F k) : SV V v l := by
  rcases h with h | ⟨g, o, c, rfl, h⟩
  · exact .inl h
  · have hb := m.block g h.rm.lt (hF g rfl)
    have hc : ∀ j, V.cell? ⟨g, j, none⟩ = w.cell? ⟨g, j, none⟩ := fun j => World.cell?_of_block hb
    have hf : ∀ j, V.frozen? ⟨g, j, none⟩ = w.frozen? ⟨g, j, none⟩ := fun j => by unfold World.frozen?; rw [hb]
    exact .inr ⟨g, o, c, rfl, h.le, ⟨Nat.lt_of_lt_of_le h.rm.lt m.size, h.rm.mx, fun j hj => by rw [hc]; exact h.rm.so j hj, fun j hj => by rw [hf]; exact h.rm.fz j hj⟩, fun j u hj => (hc _).trans (h.ra j u hj)⟩
theorem SV.shape {w : World} {v : Value} {l : List Wt} (h : SV w v l) : ∃ p c, v = .slice p l.length c := by
  rcases h with ⟨rfl, rfl⟩ | ⟨g, o, c, rfl, _⟩
  · exact ⟨none, 0, rfl⟩
  · exact ⟨_, _, rfl⟩
theorem SV.lt {w : World} {v : Value} {l : List Wt} (h : SV w v l) {k : Nat} (hk : Qd.nbk v = some k) : k < w.heap.size := by
  rcases h with ⟨rfl, rfl⟩ | ⟨g, o, c, rfl, h⟩
  · cases hk
  · cases hk; exact h.rm.lt
theorem SV.append {w : World} {v : Value} {l : List Wt} (h : SV w v l) {g2 : Nat} {x : Wt} (hx : RA w g2 0 [x]) (hl : l.length ≤ 400000) (c2 : Nat) :
    ∃ v' w', (Builtin.append_ #[27, 27] 27 #[v, slv g2 0 1 c2]).run Tryz.prog w = .ok v' w' ∧ SV w' v' (l ++ [x]) ∧ Mv (fun k => Qd.nbk v = some k) w w' ∧ (Qd.nbk v' = Qd.nbk v ∨ ∃ k, Qd.nbk v' = some k ∧ w.heap.size ≤ k) := by
  rcases h with ⟨rfl, rfl⟩ | ⟨g, o, c, rfl, h⟩
  · obtain ⟨g', c', w', hrun, hg, hrs, hb⟩ := app_nil (c2 := c2) hx (by simp) (by simp) 27
    exact ⟨_, w', hrun, .inr ⟨g', 0, c', rfl, hrs⟩, Mv.below hb, .inr ⟨g', rfl, hg⟩⟩
  · by_cases hroom : l.length + 1 ≤ c
    · obtain ⟨V', hrun, hrs, hc⟩ := app_room h (c2 := c2) hx hroom 27
      exact ⟨_, V', hrun, .inr ⟨g, o, c, by rw [List.length_append], hrs⟩, hc.mv.mono (fun k _ s => by obtain ⟨j, e, _⟩ := s; subst e; rfl), .inl rfl⟩
    · obtain ⟨g', c', V', hrun, hg, hrs, hb⟩ := app_grow h (c2 := c2) hx (by simp; omega) (by omega) (by simp) 27
      exact ⟨_, V', hrun, .inr ⟨g', 0, c', by rw [List.length_append], hrs⟩, Mv.below hb, .inr ⟨g', rfl, hg⟩⟩
end Go.Proofs.YtdcidlgmnnaahaaGreat.Me
/- LoopPlays: what waits, gathered. -/
namespace Go.Proofs.YtdcidlgmnnaahaaGreat
open Go.RowKit Go.Shelf Go.Lib
attribute [local go_sem] Oper.semAt_some
def EI (xs : List Wt) (sb k2 stop : Nat) (w0 : World) (rest : List Wt) (E : Nat → Prop) (W : World) : Prop :=
  ∃ v done, done ++ rest = xs ∧ (∀ k, E k ↔ (k = sb ∨ Qd.nbk v = some k)) ∧ Cl sb v W ∧ Me.SV W v done ∧ Qd.nbk v ≠ some sb ∧ (∀ k, Qd.nbk v = some k → w0.heap.size ≤ k ∧ k ≠ k2) ∧ W.cell? ⟨k2, 0, none⟩ = some (.int .i64 (stop : Nat)) ∧ (stop ≠ 0 → done.length < stop)
theorem EI.ter {xs : List Wt} {sb k2 stop B : Nat} {w0 : World} (h2 : k2 < B) : Ter B (EI xs sb k2 stop w0) :=
  ⟨fun s E W V h m => by
    obtain ⟨v, done, a1, a2, a3, a4, a5, a6, a7, a8⟩ := h
    exact ⟨v, done, a1, a2, a3.mv m (fun f => f.1 ((a2 sb).2 (.inl rfl))), a4.mv m (fun k hk f => f.1 ((a2 k).2 (.inr hk))), a5, a6, m.cell (a := ⟨k2, 0, none⟩) (fun f => by have := f.2; dsimp only at this; omega) a7, a8⟩, fun s E W h k hk => by
    obtain ⟨v, done, a1, a2, a3, a4, _⟩ := h
    rcases (a2 k).1 hk with rfl | hk
    · exact a3.lt
    · exact a4.lt hk⟩
/-- Who has left: as many as it wanted. -/
def EX (xs : List Wt) (sb stop : Nat) (w0 : World) (E : Nat → Prop) (W : World) : Prop :=
  ∃ v done rest, done ++ rest = xs ∧ (done ≠ [] ∧ done.length = stop) ∧ (∀ k, E k ↔ (k = sb ∨ Qd.nbk v = some k)) ∧ Cl sb v W ∧ Me.SV W v done ∧ Qd.nbk v ≠ some sb ∧ (∀ k, Qd.nbk v = some k → w0.heap.size ≤ k)
theorem EX.ter {xs : List Wt} {sb stop B : Nat} {w0 : World} : Ter B (fun _ : Unit => EX xs sb stop w0) :=
  ⟨fun s E W V h m => by
    obtain ⟨v, done, rest, a1, a0, a2, a3, a4, a5, a6⟩ := h
    exact ⟨v, done, rest, a1, a0, a2, a3.mv m (fun f => f.1 ((a2 sb).2 (.inl rfl))), a4.mv m (fun k hk f => f.1 ((a2 k).2 (.inr hk))), a5, a6⟩, fun s E W h k hk => by
    obtain ⟨v, done, rest, a1, a0, a2, a3, a4, _⟩ := h
    rcases (a2 k).1 hk with rfl | hk
    · exact a3.lt
    · exact a4.lt hk⟩
set_option maxRecDepth 100000 in
set_option maxHeartbeats 4000000 in
theorem events_takes {xs : List Wt} {sb k2 stop : Nat} {w : World} (hxs : xs.length ≤ 300) (hsb : w.heap.size ≤ sb) (hk2 : k2 ≠ sb) (x : Wt) (rest : List Wt) (E2 : Nat → Prop) (U2 : World) (h : EI xs sb k2 stop w (x :: rest) E2 U2) :
    Calls Tryz.prog 40 #[.agg #[.int .i64 x.k, .int .i64 x.p, .int .i64 x.s, .string x.u, .string x.x], .pointer (some ⟨sb, 0, none⟩), .pointer (some ⟨k2, 0, none⟩)] U2 fun e W' => ∃ b, e = .returned (.bool b) ∧ Mv E2 U2 W' ∧ ∃ E', Gr E2 U2 E' ∧ if b = true then EI xs sb k2 stop w rest E' W' else EX xs sb stop w E' W' := by
  obtain ⟨v, done, e1, e2, e3, e4, e5, e6, e7, e8⟩ := h
  obtain ⟨N, hN⟩ : ∃ N, U2.heap.size = N := ⟨_, rfl⟩
  obtain ⟨B, hB⟩ : ∃ B, U2.alloc (.cells #[.int .i64 x.k, .int .i64 x.p, .int .i64 x.s, .string x.u, .string x.x] 32) = B := ⟨_, rfl⟩
  obtain ⟨A, hA⟩ : ∃ A, B.alloc (.cells #[.int .i64 x.k, .int .i64 x.p, .int .i64 x.s, .string x.u, .string x.x] 32) = A := ⟨_, rfl⟩
  have mB : ∀ F, Mv F U2 B := fun F => by rw [← hB]; exact Mv.alloc _ _ _
  have mA' : ∀ F, Mv F B A := fun F => by rw [← hA]; exact Mv.alloc _ _ _
  have mA : ∀ F, Mv F U2 A := fun F => (mB F).trans' (mA' F)
  have sB : B.heap.size = N + 1 := by rw [← hB]; simp [hN]
  have x0 : B.cell? ⟨N, 0, none⟩ = some (.int .i64 x.k) := by rw [← hB]; exact cell_at hN rfl
  have x1 : B.cell? ⟨N, 1, none⟩ = some (.int .i64 x.p) := by rw [← hB]; exact cell_at hN rfl
  have x2 : B.cell? ⟨N, 2, none⟩ = some (.int .i64 x.s) := by rw [← hB]; exact cell_at hN rfl
  have x3 : B.cell? ⟨N, 3, none⟩ = some (.string x.u) := by rw [← hB]; exact cell_at hN rfl
  have x4 : B.cell? ⟨N, 4, none⟩ = some (.string x.x) := by rw [← hB]; exact cell_at hN rfl
  have svA := e4.mv (mA fun _ => False) (fun _ _ h => h)
  have raA : Me.RA A (N + 1) 0 [x] := by
    intro j u hj
    rw [Nat.zero_add, ← hA]
    refine cell_at sB ?_
    match j, hj with
    | 0, hj => exact hj
    | 1, hj => exact hj
    | 2, hj => exact hj
    | 3, hj => exact hj
    | 4, hj => exact hj
    | j + 5, hj => simp [Me.flat] at hj
  have hdl : done.length + rest.length + 1 = xs.length := by rw [← e1]; simp; omega
  obtain ⟨v', A2, hrun, sv', m2, at2⟩ := svA.append raA (by omega) 1
  obtain ⟨A3, hA3⟩ : ∃ A3, A2.setCell ⟨sb, 0, none⟩ v' = A3 := ⟨_, rfl⟩
  have n2 : ¬ Qd.nbk v = some sb := e5
  have cB := e3.mv (mB fun _ => False) (fun h => h)
  have cA2 := (e3.mv (mA fun _ => False) (fun h => h)).mv m2 n2
  have clA3 : Cl sb v' A3 := by rw [← hA3]; exact cA2.set v'
  have mS : Mv (fun k => k = sb) A2 A3 := by rw [← hA3]; exact Mv.set1 (E := fun k => k = sb) rfl _
  have szA : A.heap.size = N + 2 := by rw [← hA]; simp [sB]
  have hnU : sb < U2.heap.size := e3.lt
  have lk2 := cell_lt e7
  have n3 : Qd.nbk v' ≠ some sb := fun e => by
    rcases at2 with q | ⟨k, q, hk⟩
    · exact e5 (q ▸ e)
    · rw [e] at q; injection q with q; omega
  have fr' : ∀ k, Qd.nbk v' = some k → w.heap.size ≤ k ∧ k ≠ k2 := fun k hk => by
    rcases at2 with q | ⟨k', q, hk'⟩
    · exact e6 k (by rw [← q]; exact hk)
    · rw [hk] at q; injection q with q
      simp only at lk2
      exact ⟨by omega, by omega⟩
  have st2 : A2.cell? ⟨k2, 0, none⟩ = some (.int .i64 (stop : Nat)) := m2.cell (a := ⟨k2, 0, none⟩) (fun e => (e6 k2 e).2 rfl) ((mA fun _ => False).cell (fun h => h) e7)
  have st3 : A3.cell? ⟨k2, 0, none⟩ = some (.int .i64 (stop : Nat)) := mS.cell (a := ⟨k2, 0, none⟩) hk2 st2
  have mvF : Mv E2 U2 A3 := ((mA E2).trans' (m2.mono fun k _ hk => (e2 k).2 (.inr hk))).trans' (mS.mono fun k _ hk => (e2 k).2 (.inl hk))
  have grF : Gr E2 U2 (fun k => k = sb ∨ Qd.nbk v' = some k) := fun k hk => by
    rcases hk with hk | hk
    · exact .inl ((e2 k).2 (.inl hk))
    · rcases at2 with q | ⟨k', q, hk'⟩
      · exact .inl ((e2 k).2 (.inr (by rw [← q]; exact hk)))
      · rw [hk] at q; injection q with q; exact .inr (by omega)
  have svF : Me.SV A3 v' (done ++ [x]) := sv'.mv mS (fun k hk e => n3 (e ▸ hk))
  have ed : (done ++ [x]) ++ rest = xs := by rw [List.append_assoc]; exact e1
  obtain ⟨nd, hnd⟩ : ∃ nd, done.length = nd := ⟨_, rfl⟩
  obtain ⟨nd', hnd'⟩ : ∃ nd', (done ++ [x]).length = nd' := ⟨_, rfl⟩
  have hle : (nd' : Int) ≤ 300 := by
    rw [List.length_append, List.length_singleton] at hnd'
    omega
  have fin : Hid (∀ b, (b = true ↔ nd' ≠ stop) → Mv E2 U2 A3 ∧ ∃ E', Gr E2 U2 E' ∧ if b = true then EI xs sb k2 stop w rest E' A3 else EX xs sb stop w E' A3) := fun b hb => by
    refine ⟨mvF, _, grF, ?_⟩
    by_cases e : b = true
    · rw [if_pos e]
      exact ⟨v', done ++ [x], ed, fun _ => Iff.rfl, clA3, svF, n3, fr', st3, fun h0 => by
        have h1 := e8 h0
        have h2 := hb.1 e
        rw [hnd']
        have h3 := hnd'
        rw [List.length_append, List.length_singleton] at h3
        omega⟩
    · rw [if_neg e]
      refine ⟨v', done ++ [x], rest, ed, ⟨by simp, hnd'.trans ?_⟩, fun _ => Iff.rfl, clA3, svF, n3, fun k hk => (fr' k hk).1⟩
      by_cases z : nd' = stop
      · exact z
      · exact absurd (hb.2 z) e
  obtain ⟨pv, cvv, rfl⟩ := e4.shape
  obtain ⟨pv', cv', rfl⟩ := sv'.shape
  have ec := cB.c
  have ef := cA2.f
  have ec2 := cA2.c
  have ec3 := clA3.c
  rw [hnd] at hrun ec ec2
  rw [hnd'] at hrun hA3 ec3
  rw [← sB] at hrun
  obtain ⟨xu, hxu⟩ : ∃ xu, x.u = xu := ⟨_, rfl⟩
  obtain ⟨xx, hxx⟩ : ∃ xx, x.x = xx := ⟨_, rfl⟩
  rw [hxu] at x3 hB hA ⊢
  rw [hxx] at x4 hB hA ⊢
  clear sv' m2 at2 e1 e2 e3 e4 e5 e6 e7 e8 n2 clA3 mS n3 svA raA mA mB mA' hdl cA2 cB hnd hnd' szA hnU hxu hxx sB mvF grF svF ed fr' lk2 st2
  by_cases hs : nd' = stop
  · have hsI : (nd' : Int) = (stop : Int) := by omega
    subst hs
    clear hsI
    go_enter Tryz.func40, Tryz.ntmps40
    go_wp2_with (first | rw [hB] | rw [hA] | rw [hA3] | (at_builtin; refine wpList_append_run rfl _ _ 27 rfl _ _ _ _ rfl rfl hrun ?_))
    go_ret
    exact ⟨false, by first | rfl | simp, fin.out false ⟨(fun h => by cases h), fun h => absurd rfl h⟩⟩
  · have hsI : ¬ (nd' : Int) = (stop : Int) := by omega
    have hsD : decide ((nd' : Int) = (stop : Int)) = false := by simpa using hsI
    go_enter Tryz.func40, Tryz.ntmps40
    go_wp2_with (first | rw [hB] | rw [hA] | rw [hA3] | (at_builtin; refine wpList_append_run rfl _ _ 27 rfl _ _ _ _ rfl rfl hrun ?_))
    go_ret
    exact ⟨true, by simp; omega, fin.out true ⟨fun _ => hs, fun _ => rfl⟩⟩
end Go.Proofs.YtdcidlgmnnaahaaGreat
/- LoopPlays: what waits, gathered: the whole. -/
namespace Go.Proofs.YtdcidlgmnnaahaaGreat
open Go.RowKit Go.Shelf Go.Lib
attribute [local go_sem] Oper.semAt_some
set_option maxRecDepth 100000 in
theorem alll_any (lb : Nat) (w : World) : Calls Tryz.prog 39 #[lp lb] w fun e V => e = .returned (.func (.func 56) #[] #[.pointer (some ⟨w.heap.size, 0, none⟩)]) ∧ V = w.alloc (.cells #[lp lb] 24) := by
  unfold lp
  go_enter Tryz.func39, Tryz.ntmps39
  go_wp2_with fail
  go_ret
  exact ⟨by simp, rfl⟩
set_option maxRecDepth 100000 in
set_option maxHeartbeats 4000000 in
theorem eventsl_any {w : World} {lb n : Nat} {El : Nat → Prop} {L : List Wt} {T : List Du} (h : Lo w lb El L n T) (stop : Nat) (hl : L.length ≤ 300) :
    Calls Tryz.prog 23 #[lp lb, .int .i64 (stop : Nat)] w fun e V => ∃ v done rest, e = .returned v ∧ done ++ rest = L ∧ ((rest = [] ∧ (stop ≠ 0 → done.length < stop)) ∨ (done ≠ [] ∧ done.length = stop)) ∧ Me.SV V v done ∧ Below w.heap.size w V ∧ ∀ k, Qd.nbk v = some k → w.heap.size ≤ k := by
  obtain ⟨kb, hkb⟩ : ∃ kb, w.heap.size = kb := ⟨_, rfl⟩
  obtain ⟨Wa, hWa⟩ : ∃ Wa, w.alloc (.cells #[.int .i64 (stop : Nat)] 3) = Wa := ⟨_, rfl⟩
  have sa : Wa.heap.size = kb + 1 := by rw [← hWa]; simp [hkb]
  have ba : Below w.heap.size w Wa := by rw [← hWa]; exact (Below.refl _ _).alloc (Nat.le_refl _) _
  have ca : Wa.cell? ⟨kb, 0, none⟩ = some (.int .i64 (stop : Nat)) := by rw [← hWa]; exact cell_at hkb rfl
  obtain ⟨W0, hW0⟩ : ∃ W0, Wa.alloc (.cells #[.slice none 0 0] 27) = W0 := ⟨_, rfl⟩
  have b0 : Below Wa.heap.size Wa W0 := by rw [← hW0]; exact (Below.refl _ _).alloc (Nat.le_refl _) _
  have s0 : W0.heap.size = kb + 2 := by rw [← hW0]; simp [sa]
  have cl0 : Cl (kb + 1) (.slice none 0 0) W0 := ⟨by rw [← hW0]; exact cell_at sa rfl, by rw [← hW0]; exact froz_new sa⟩
  obtain ⟨W5, hW5⟩ : ∃ W5, W0.alloc (.cells #[lp lb] 24) = W5 := ⟨_, rfl⟩
  have b5 : Below W0.heap.size W0 W5 := by rw [← hW5]; exact (Below.refl _ _).alloc (Nat.le_refl _) _
  have z0 : W5.cell? ⟨kb + 2, 0, none⟩ = some (lp lb) := by rw [← hW5]; exact cell_at s0 rfl
  have s5 : W5.heap.size = kb + 3 := by rw [← hW5]; simp [s0]
  have lo5 := ((h.below ba).below b0).below b5
  have cl5 : Cl (kb + 1) (.slice none 0 0) W5 := cl0.mv (Mv.below (E := fun _ => False) b5) (fun h => h)
  have st5 : W5.cell? ⟨kb, 0, none⟩ = some (.int .i64 (stop : Nat)) := bcell b5 (by omega) (bcell b0 (by omega) ca)
  have bw5 : Below w.heap.size w W5 := ba.trans ((b0.trans (b5.mono (by omega))).mono (by omega))
  have lE := h.lt.1
  have hTm := alll_any lb W0
  have hD := all_plays (kb + 1) kb (fun k => k = kb + 1) W5 lo5 z0 (fun k hk e => by have := lE k hk; omega) (EI L (kb + 1) kb stop w) (EX L (kb + 1) stop w) (EI.ter (by omega)) EX.ter (fun x rest E W h => events_takes hl (by omega) (by omega) x rest E W h) ⟨.slice none 0 0, [], rfl, fun k => ⟨.inl, fun h => h.elim id (fun e => by cases e)⟩, cl5, .inl ⟨rfl, rfl⟩, (fun e => by cases e), (fun k e => by cases e), st5, fun h => by simpa using Nat.pos_of_ne_zero h⟩
  have hD' : Hid (Calls Tryz.prog 56 #[.func (.func 40) #[] #[.pointer (some ⟨kb + 1, 0, none⟩), .pointer (some ⟨kb, 0, none⟩)], .pointer (some ⟨kb + 2, 0, none⟩)] W5 fun e V => e = .returned (.tuple #[]) ∧ ∃ p l c done rest, V.cell? ⟨kb + 1, 0, none⟩ = some (.slice p l c) ∧ done ++ rest = L ∧ ((rest = [] ∧ (stop ≠ 0 → done.length < stop)) ∨ (done ≠ [] ∧ done.length = stop)) ∧ Me.SV V (.slice p l c) done ∧ Below w.heap.size w V ∧ ∀ k, Qd.nbk (.slice p l c) = some k → w.heap.size ≤ k) := by
    refine hD.mono ?_
    rintro e V ⟨rfl, m, E', g, (⟨v, done, e1, e2, e3, e4, e5, e6, e7, e8⟩ | ⟨v, done, rest, e1, e0, e2, e3, e4, e5, e6⟩)⟩
    · obtain ⟨p, c, rfl⟩ := e4.shape
      exact ⟨rfl, p, _, c, done, [], e3.c, e1, .inl ⟨rfl, e8⟩, e4, bw5.trans (m.toBelow (by omega) fun k hk e => by omega), fun k hk => (e6 k hk).1⟩
    · obtain ⟨p, c, rfl⟩ := e4.shape
      exact ⟨rfl, p, _, c, done, rest, e3.c, e1, .inr e0, e4, bw5.trans (m.toBelow (by omega) fun k hk e => by omega), e6⟩
  unfold lp at hTm hW5
  rw [hW5, s0] at hTm
  have hTm' := hidP hTm
  clear h hl ba ca b0 s0 cl0 b5 z0 s5 lo5 cl5 st5 bw5 lE hTm hD hW5
  unfold lp
  go_enter Tryz.func23, Tryz.ntmps23
  go_wp2_with (first | rw [hWa] | rw [hW0])
  refine hTm'.out.mono ?_
  rintro e V ⟨rfl, rfl⟩
  go_wp2_with fail
  refine hD'.out.mono ?_
  rintro e V ⟨rfl, p, l, c, done, rest, cv, e1, e2, sv, bw, fr⟩
  have svH := hidP sv
  have bwH := hidP bw
  have frH := hidP fr
  have e1H := hidP e1
  have e2H := hidP e2
  clear hTm' hD' sv bw fr e1 e2
  go_wp2_with fail
  go_ret
  exact ⟨_, done, rest, rfl, e1H.out, e2H.out, svH.out, bwH.out, frH.out⟩
end Go.Proofs.YtdcidlgmnnaahaaGreat
