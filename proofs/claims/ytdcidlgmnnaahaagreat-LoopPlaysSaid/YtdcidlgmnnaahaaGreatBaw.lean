import Derived.Test.YtdcidlgmnnaahaaGreatBav
/- Rows of timers that are due. -/
namespace Go.Proofs.YtdcidlgmnnaahaaGreat.Md
open Go.RowKit Go.Shelf Go.Lib
def flat : List Du → List Value
  | [] => []
  | x :: r => .string x.u :: .string x.w :: .int .i64 x.t :: flat r
theorem flat_len : ∀ xs, (flat xs).length = xs.length * 3
  | [] => rfl
  | x :: r => by simp [flat, flat_len r]; omega
theorem flat_app : ∀ xs ys, flat (xs ++ ys) = flat xs ++ flat ys
  | [], _ => rfl
  | x :: r, ys => by simp [flat, flat_app r ys]
theorem flat_one : ∀ xs, ∀ u ∈ flat xs, u.oneCell' = true
  | [], u, h => by cases h
  | x :: r, u, h => by
    simp only [flat, List.mem_cons] at h
    rcases h with rfl | rfl | rfl | h
    · rfl
    · rfl
    · rfl
    · exact flat_one r u h
theorem flat_at : ∀ (xs : List Du) (j : Nat) (x : Du), xs[j]? = some x → (flat xs)[j * 3]? = some (.string x.u) ∧ (flat xs)[j * 3 + 1]? = some (.string x.w) ∧ (flat xs)[j * 3 + 2]? = some (.int .i64 x.t)
  | [], j, x, h => by cases h
  | y :: r, 0, x, h => by simp at h; subst h; exact ⟨rfl, rfl, rfl⟩
  | y :: r, j + 1, x, h => by
    have := flat_at r j x (by simpa using h)
    rw [show (j + 1) * 3 = j * 3 + 3 by omega, show j * 3 + 3 + 1 = j * 3 + 1 + 3 by omega, show j * 3 + 3 + 2 = j * 3 + 2 + 3 by omega]
    exact this
theorem infoT : ∃ i, Tryz.prog.info? 68 = some i ∧ i.zero = some (.agg #[.string ⟨#[]⟩, .string ⟨#[]⟩, .int .i64 0]) ∧ i.size = 3 ∧ i.bytes = 40 := by
  have h : (Tryz.prog.info? 68).map (fun i => (i.zero, i.size, i.bytes)) = some (some (.agg #[.string ⟨#[]⟩, .string ⟨#[]⟩, .int .i64 0]), 3, 40) := by kernel_rfl
  cases e : Tryz.prog.info? 68 with
  | none => rw [e] at h; cases h
  | some i => rw [e] at h; simp at h; exact ⟨i, rfl, h⟩

/-- The records xs lie in block g from o on. -/
def RA (w : World) (g o : Nat) (xs : List Du) : Prop := ∀ j u, (flat xs)[j]? = some u → w.cell? ⟨g, o + j, none⟩ = some u
/-- There is room for cap records. -/
structure Rm (w : World) (g o cap : Nat) : Prop where
  lt : g < w.heap.size
  mx : cap ≤ maxLen
  so : ∀ j, j < cap * 3 → (w.cell? ⟨g, o + j, none⟩).isSome = true
  fz : ∀ j, j < cap * 3 → w.frozen? ⟨g, o + j, none⟩ = false
theorem RA.nil (w : World) (g o : Nat) : RA w g o [] := fun j u h => by cases h
theorem RA.cv {S : Nat → Nat → Prop} {w w' : World} {g o : Nat} {xs : List Du} (h : RA w g o xs) (m : Cv S w w') (hn : ∀ j, o ≤ j → j < o + xs.length * 3 → ¬ S g j) : RA w' g o xs := fun j u hj => by
  have hl : j < xs.length * 3 := by rw [← flat_len]; exact (List.getElem?_eq_some_iff.1 hj).1
  exact m.cell (hn _ (by omega) (by omega)) (h j u hj)
theorem Rm.cv {S : Nat → Nat → Prop} {w w' : World} {g o cap : Nat} (h : Rm w g o cap) (m : Cv S w w') : Rm w' g o cap :=
  ⟨Nat.lt_of_lt_of_le h.lt m.size, h.mx, fun j hj => m.pr _ _ h.lt (h.so j hj), fun j hj => (m.fr _ _ h.lt).trans (h.fz j hj)⟩
theorem Rm.sub {w : World} {g o cap : Nat} (h : Rm w g o cap) {a c : Nat} (hc : a + c ≤ cap) : Rm w g (o + a * 3) c :=
  ⟨h.lt, Nat.le_trans (by omega) h.mx, fun j hj => by rw [Nat.add_assoc]; exact h.so _ (by omega), fun j hj => by rw [Nat.add_assoc]; exact h.fz _ (by omega)⟩
theorem RA.app {w : World} {g o : Nat} {xs ys : List Du} : RA w g o (xs ++ ys) ↔ RA w g o xs ∧ RA w g (o + xs.length * 3) ys := by
  unfold RA
  rw [flat_app]
  constructor
  · intro h
    refine ⟨fun j u hj => h j u (by rw [List.getElem?_append_left (List.getElem?_eq_some_iff.1 hj).1]; exact hj), fun j u hj => ?_⟩
    rw [Nat.add_assoc]
    exact h _ u (by rw [List.getElem?_append_right (by rw [flat_len]; omega), flat_len, show xs.length * 3 + j - xs.length * 3 = j by omega]; exact hj)
  · rintro ⟨h1, h2⟩ j u hj
    rcases Nat.lt_or_ge j (xs.length * 3) with hl | hl
    · exact h1 j u (by rw [List.getElem?_append_left (by rw [flat_len]; exact hl)] at hj; exact hj)
    · rw [List.getElem?_append_right (by rw [flat_len]; exact hl), flat_len] at hj
      have := h2 _ u hj
      rw [Nat.add_assoc, show xs.length * 3 + (j - xs.length * 3) = j by omega] at this
      exact this
theorem RA.at {w : World} {g o : Nat} {xs : List Du} (h : RA w g o xs) {j : Nat} {x : Du} (hx : xs[j]? = some x) :
    w.cell? ⟨g, o + j * 3, none⟩ = some (.string x.u) ∧ w.cell? ⟨g, o + j * 3 + 1, none⟩ = some (.string x.w) ∧ w.cell? ⟨g, o + j * 3 + 2, none⟩ = some (.int .i64 x.t) := by
  obtain ⟨h1, h2, h3⟩ := flat_at xs j x hx
  exact ⟨h _ _ h1, h _ _ h2, h _ _ h3⟩
/-- A slice of records. -/
structure RS (w : World) (g o cap : Nat) (xs : List Du) : Prop where
  le : xs.length ≤ cap
  rm : Rm w g o cap
  ra : RA w g o xs
abbrev slv (g o n cap : Nat) : Value := .slice (some ⟨g, o, none⟩) n cap
theorem RS.cv {S : Nat → Nat → Prop} {w w' : World} {g o cap : Nat} {xs : List Du} (h : RS w g o cap xs) (m : Cv S w w') (hn : ∀ j, o ≤ j → j < o + xs.length * 3 → ¬ S g j) : RS w' g o cap xs := ⟨h.le, h.rm.cv m, h.ra.cv m hn⟩
theorem RS.own {w : World} {v : Value} {base : Nat} {e : TypeId} {xs : List Du} (h : w.ownsRow base e 3 v xs.length (flat xs)) (h0 : xs ≠ []) : ∃ g cap, v = slv g 0 xs.length cap ∧ base ≤ g ∧ RS w g 0 cap xs := by
  rcases h.2 with ⟨rfl, h1⟩ | ⟨g, cap, cur, rfl, hb, hg, h1, h2, h3, h4⟩
  · exact absurd (List.eq_nil_of_length_eq_zero h1) h0
  · refine ⟨g, cap, rfl, hb, h1, ⟨(Array.getElem?_eq_some_iff.1 hg).1, h2, fun j hj => ?_, fun j hj => ?_⟩, fun j x hx => ?_⟩
    · unfold World.cell?
      rw [hg]
      have : j < cur.size := by rw [h3]; omega
      simp [this]
    · unfold World.frozen?
      rw [hg]
      simp
    · have := h.cells (g := g) rfl j x hx
      rw [Addr.add_lit] at this
      exact this
theorem app_room {w : World} {g o cap : Nat} {xs ys : List Du} (h : RS w g o cap xs) {g2 o2 c2 : Nat} (hy : RA w g2 o2 ys) (hr : xs.length + ys.length ≤ cap) (ty : TypeId) :
    ∃ w', (Builtin.append_ #[28, 28] ty #[slv g o xs.length cap, slv g2 o2 ys.length c2]).run Tryz.prog w = .ok (slv g o (xs.length + ys.length) cap) w' ∧ RS w' g o cap (xs ++ ys) ∧ Cv (fun k j => k = g ∧ o + xs.length * 3 ≤ j ∧ j < o + (xs.length + ys.length) * 3) w w' := by
  obtain ⟨i0, hi, hz0, hz1, hz2⟩ := infoT
  have hrun := run_append_room_cells (P := Tryz.prog) w 28 ty 68 _ Tryz.underlying28 hi g o xs.length cap ⟨g2, o2, none⟩ ys.length c2 (flat ys) (by rw [hz1, flat_len]) (fun j u hj => by rw [Addr.add_lit]; exact hy j u hj) (flat_one ys) hr (fun j hj => by rw [flat_len] at hj; rw [hz1, Nat.add_assoc]; exact h.rm.so _ (by omega)) (fun j hj => by rw [flat_len] at hj; rw [hz1, Nat.add_assoc]; exact h.rm.fz _ (by omega))
  rw [hz1] at hrun
  have hth : ∀ j, j < (flat ys).length → (w.cell? ⟨g, o + xs.length * 3 + j, none⟩).isSome = true := fun j hj => by rw [flat_len] at hj; rw [Nat.add_assoc]; exact h.rm.so _ (by omega)
  have m := Cv.cells w g (o + xs.length * 3) (flat ys)
  rw [flat_len] at m
  have m2 : Cv (fun k j => k = g ∧ o + xs.length * 3 ≤ j ∧ j < o + (xs.length + ys.length) * 3) w (w.setCells g (o + xs.length * 3) (flat ys)) := m.mono fun k j _ h => ⟨h.1, h.2.1, by have := h.2.2; omega⟩
  refine ⟨_, hrun, ⟨by rw [List.length_append]; exact hr, h.rm.cv m2, RA.app.2 ⟨h.ra.cv m2 (fun j _ hj q => by have := q.2.1; omega), fun j u hj => ?_⟩⟩, m2⟩
  obtain ⟨hlt, hge⟩ := List.getElem?_eq_some_iff.1 hj
  rw [World.cell?_setCells_in g _ _ w hth j hlt, hge]
theorem app_grow {w : World} {g o cap : Nat} {xs ys : List Du} (h : RS w g o cap xs) {g2 o2 c2 : Nat} (hy : RA w g2 o2 ys) (hr : cap < xs.length + ys.length) (hx : xs.length ≤ 1000000) (hyl : ys.length ≤ 1000000) (ty : TypeId) :
    ∃ g' c' w', (Builtin.append_ #[28, 28] ty #[slv g o xs.length cap, slv g2 o2 ys.length c2]).run Tryz.prog w = .ok (slv g' 0 (xs.length + ys.length) c') w' ∧ w.heap.size ≤ g' ∧ RS w' g' 0 c' (xs ++ ys) ∧ Below w.heap.size w w' := by
  obtain ⟨i0, hi, hz0, hz1, hz2⟩ := infoT
  obtain ⟨v', w', hrun, ho, hgr⟩ := run_append_arg_grows (P := Tryz.prog) w 28 ty 68 _ _ 3 40 Tryz.underlying28 hi hz0 hz1 hz2 rfl (by decide) ⟨g, o, none⟩ xs.length cap (flat xs) (flat_len xs) (fun j u hj => by rw [Addr.add_lit]; exact h.ra j u hj) ⟨g2, o2, none⟩ ys.length c2 (flat ys) (flat_len ys) (fun j u hj => by rw [Addr.add_lit]; exact hy j u hj) hr (by unfold maxLen; omega) (by omega)
  rw [← flat_app, ← List.length_append] at ho
  obtain ⟨g', c', rfl, hb, hs⟩ := RS.own ho (by intro e; have := congrArg List.length e; rw [List.length_append, List.length_nil] at this; omega)
  rw [List.length_append] at hrun
  exact ⟨g', c', w', hrun, hb, hs, ((Mv.refl (fun _ => False) w).grown hgr (fun k e => by cases e)).toBelow (Nat.le_refl _) (fun _ _ h => h)⟩
theorem app_nil {w : World} {ys : List Du} {g2 o2 c2 : Nat} (hy : RA w g2 o2 ys) (hy0 : ys ≠ []) (hyl : ys.length ≤ 1000000) (ty : TypeId) :
    ∃ g' c' w', (Builtin.append_ #[28, 28] ty #[.slice none 0 0, slv g2 o2 ys.length c2]).run Tryz.prog w = .ok (slv g' 0 ys.length c') w' ∧ w.heap.size ≤ g' ∧ RS w' g' 0 c' ys ∧ Below w.heap.size w w' := by
  obtain ⟨i0, hi, hz0, hz1, hz2⟩ := infoT
  obtain ⟨v', w', hrun, ho, hgr, _, hat⟩ := run_append_own_at (P := Tryz.prog) w w.heap.size 28 ty 68 _ _ 3 40 Tryz.underlying28 hi hz0 hz1 hz2 rfl (by decide) (.slice none 0 0) 0 [] (World.ownsRow_nil w _ _ _) ⟨g2, o2, none⟩ ys.length c2 (flat ys) (flat_len ys) (fun j u hj => by rw [Addr.add_lit]; exact hy j u hj) (flat_one ys) (by unfold maxLen; omega) (by omega) (Nat.le_refl _)
  rw [Nat.zero_add, List.nil_append] at ho
  obtain ⟨g', c', rfl, hb, hs⟩ := RS.own ho hy0
  exact ⟨g', c', w', hrun, hb, hs, ((Mv.refl (fun _ => False) w).grown hgr (fun k e => by cases e)).toBelow (Nat.le_refl _) (fun _ _ h => h)⟩
theorem app_none {w : World} {g o cap : Nat} {xs : List Du} (h : RS w g o cap xs) (p : Option Addr) (c2 : Nat) (ty : TypeId) :
    (Builtin.append_ #[28, 28] ty #[slv g o xs.length cap, .slice p 0 c2]).run Tryz.prog w = .ok (slv g o xs.length cap) w := by
  obtain ⟨i0, hi, hz0, hz1, hz2⟩ := infoT
  have hle := h.le
  cases p <;> simp [Builtin.append_, run_underlying Tryz.underlying28, sizeOf, typeInfo, hi, Builtin.lenOf, Builtin.firstCells, loadCells, loadCellsFrom, storeCells, hle]
/-- A slice of records, nil or not. -/
def SV (w : World) (v : Value) (l : List Du) : Prop := (v = .slice none 0 0 ∧ l = []) ∨ ∃ g o c, v = slv g o l.length c ∧ RS w g o c l
theorem SV.mv {F : Nat → Prop} {w V : World} {v : Value} {l : List Du} (h : SV w v l) (m : Mv F w V) (hF : ∀ k, Qd.nbk v = some k → ¬ F k) : SV V v l := by
  rcases h with h | ⟨g, o, c, rfl, h⟩
  · exact .inl h
  · have hb := m.block g h.rm.lt (hF g rfl)
    have hc : ∀ j, V.cell? ⟨g, j, none⟩ = w.cell? ⟨g, j, none⟩ := fun j => World.cell?_of_block hb
    have hf : ∀ j, V.frozen? ⟨g, j, none⟩ = w.frozen? ⟨g, j, none⟩ := fun j => by unfold World.frozen?; rw [hb]
    exact .inr ⟨g, o, c, rfl, h.le, ⟨Nat.lt_of_lt_of_le h.rm.lt m.size, h.rm.mx, fun j hj => by rw [hc]; exact h.rm.so j hj, fun j hj => by rw [hf]; exact h.rm.fz j hj⟩, fun j u hj => (hc _).trans (h.ra j u hj)⟩
theorem SV.shape {w : World} {v : Value} {l : List Du} (h : SV w v l) : ∃ p c, v = .slice p l.length c := by
  rcases h with ⟨rfl, rfl⟩ | ⟨g, o, c, rfl, _⟩
  · exact ⟨none, 0, rfl⟩
  · exact ⟨_, _, rfl⟩
theorem SV.lt {w : World} {v : Value} {l : List Du} (h : SV w v l) {k : Nat} (hk : Qd.nbk v = some k) : k < w.heap.size := by
  rcases h with ⟨rfl, rfl⟩ | ⟨g, o, c, rfl, h⟩
  · cases hk
  · cases hk; exact h.rm.lt
theorem SV.append {w : World} {v : Value} {l : List Du} (h : SV w v l) {g2 : Nat} {x : Du} (hx : RA w g2 0 [x]) (hl : l.length ≤ 400000) (c2 : Nat) :
    ∃ v' w', (Builtin.append_ #[28, 28] 28 #[v, slv g2 0 1 c2]).run Tryz.prog w = .ok v' w' ∧ SV w' v' (l ++ [x]) ∧ Mv (fun k => Qd.nbk v = some k) w w' ∧ (Qd.nbk v' = Qd.nbk v ∨ ∃ k, Qd.nbk v' = some k ∧ w.heap.size ≤ k) := by
  rcases h with ⟨rfl, rfl⟩ | ⟨g, o, c, rfl, h⟩
  · obtain ⟨g', c', w', hrun, hg, hrs, hb⟩ := app_nil (c2 := c2) hx (by simp) (by simp) 28
    exact ⟨_, w', hrun, .inr ⟨g', 0, c', rfl, hrs⟩, Mv.below hb, .inr ⟨g', rfl, hg⟩⟩
  · by_cases hroom : l.length + 1 ≤ c
    · obtain ⟨V', hrun, hrs, hc⟩ := app_room h (c2 := c2) hx hroom 28
      exact ⟨_, V', hrun, .inr ⟨g, o, c, by rw [List.length_append], hrs⟩, hc.mv.mono (fun k _ s => by obtain ⟨j, e, _⟩ := s; subst e; rfl), .inl rfl⟩
    · obtain ⟨g', c', V', hrun, hg, hrs, hb⟩ := app_grow h (c2 := c2) hx (by simp; omega) (by omega) (by simp) 28
      exact ⟨_, V', hrun, .inr ⟨g', 0, c', by rw [List.length_append], hrs⟩, Mv.below hb, .inr ⟨g', rfl, hg⟩⟩
end Go.Proofs.YtdcidlgmnnaahaaGreat.Md
/- slices.Collect of timers that are due. -/
namespace Go.Proofs.YtdcidlgmnnaahaaGreat.Md
open Go.RowKit Go.Shelf Go.Lib
attribute [local go_sem] Oper.semAt_some
/-- How far AppendSeq has come. -/
def AI (l0 xs : List Du) (v0 : Value) (sb : Nat) (w0 : World) (rest : List Du) (E : Nat → Prop) (W : World) : Prop :=
  ∃ v done, done ++ rest = xs ∧ (∀ k, E k ↔ (k = sb ∨ Qd.nbk v = some k)) ∧ Cl sb v W ∧ SV W v (l0 ++ done) ∧ Qd.nbk v ≠ some sb ∧ (Qd.nbk v = Qd.nbk v0 ∨ ∃ k, Qd.nbk v = some k ∧ w0.heap.size ≤ k)
theorem AI.ter {l0 xs : List Du} {v0 : Value} {sb B : Nat} {w0 : World} : Ter B (AI l0 xs v0 sb w0) :=
  ⟨fun s E W V h m => by
    obtain ⟨v, done, h1, h2, h3, h4, h5⟩ := h
    exact ⟨v, done, h1, h2, h3.mv m (fun f => f.1 ((h2 sb).2 (.inl rfl))), h4.mv m (fun k hk f => f.1 ((h2 k).2 (.inr hk))), h5⟩, fun s E W h k hk => by
    obtain ⟨v, done, h1, h2, h3, h4, h5⟩ := h
    rcases (h2 k).1 hk with rfl | hk
    · exact h3.lt
    · exact h4.lt hk⟩
def AX (_ : Code) (_ : Nat → Prop) (_ : World) : Prop := False
theorem AX.ter (B : Nat) : Ter B AX := ⟨fun _ _ _ _ h _ => h.elim, fun _ _ _ h => h.elim⟩
set_option maxRecDepth 100000 in
set_option maxHeartbeats 4000000 in
theorem appendseq_any (l0 xs : List Du) (v0 : Value) (gf : Nat) (lb : Array Value) (eg : ∀ args w, (callFunc gf args).run Tryz.prog w = .ok (.enter gf args) w) (w : World) (h0 : SV w v0 l0) (hrow : ∀ W0, Below w.heap.size w W0 → Row Tryz.prog gf lb Qd.encE xs (fun k => k = w.heap.size ∨ Qd.nbk v0 = some k) W0) (hl : l0.length + xs.length ≤ 400000) :
    Calls Tryz.prog 48 #[v0, .func (.func gf) #[] lb] w fun e V => ∃ v, e = .returned v ∧ SV V v (l0 ++ xs) ∧ Mv (fun k => Qd.nbk v0 = some k) w V ∧ (Qd.nbk v = Qd.nbk v0 ∨ ∃ k, Qd.nbk v = some k ∧ w.heap.size ≤ k) := by
  obtain ⟨p0, c0, hv0⟩ := h0.shape
  obtain ⟨n0, hn0⟩ : ∃ n0, l0.length = n0 := ⟨_, rfl⟩
  rw [hn0] at hv0
  obtain ⟨n, hn⟩ : ∃ n, w.heap.size = n := ⟨_, rfl⟩
  obtain ⟨W0, hW0⟩ : ∃ W0, w.alloc (.cells #[v0] 28) = W0 := ⟨_, rfl⟩
  have mW : ∀ F, Mv F w W0 := fun F => by rw [← hW0]; exact Mv.alloc _ _ _
  have hs0 : W0.heap.size = n + 1 := by rw [← hW0]; simp [hn]
  have cl0 : Cl n v0 W0 := ⟨by rw [← hW0]; exact cell_at hn rfl, by rw [← hW0]; exact froz_new hn⟩
  have sv0 : SV W0 v0 l0 := h0.mv (mW fun _ => False) (fun _ _ h => h)
  have nv0 : Qd.nbk v0 ≠ some n := fun e => by have := h0.lt e; omega
  have row := hidP (hrow W0 (by rw [← hW0]; exact (Below.refl _ _).alloc (Nat.le_refl _) _))
  rw [hn] at row
  have tI : Ter W0.heap.size (AI l0 xs v0 n w) := AI.ter
  have hI : Hid (AI l0 xs v0 n w xs (fun k => k = n ∨ Qd.nbk v0 = some k) W0) := ⟨v0, [], rfl, fun _ => Iff.rfl, cl0, by rw [List.append_nil]; exact sv0, nv0, .inl rfl⟩
  have hnH := hidP hn
  have mWH := hidP mW
  have hs0H := hidP hs0
  have hv0H := hidP hv0
  clear h0 hrow cl0 sv0 mW hs0 hn0 hv0H
  subst hv0
  refine (callsIn_wide (n := 5)).1 ?_
  refine callsIn_of_wp_marks Tryz.func48 rfl trivial ?_ rfl
  simp only [Tryz.ntmps48, List.size_toArray, List.length_cons, List.length_nil, Nat.reduceAdd, Nat.reduceSub, Array.replicate_succ, Array.replicate_zero, List.push_toArray, List.append_toArray, List.nil_append, List.cons_append]
  gi_wp2_with (rw [hW0])
  refine loop_out (gf := gf) (lb := lb) rfl eg row.out (fun _ => rfl) (AI l0 xs (.slice p0 n0 c0) n w) AX tI (AX.ter _) hI.out ?round ?done ?stop
  case round =>
    rintro l9 hl9 x rest E2 U hi hm hg hEl hrec
    have hltH : Hid (l9 < U.heap.size) := by obtain ⟨r, hr⟩ := hrec; exact (Array.getElem?_eq_some_iff.1 hr).1
    clear hrec
    simp only [Qd.encE]
    gi_wp2_with fail
    refine ⟨⟨Mv.alloc _ _ _, Below.heap_alloc _ _ _ hltH.out⟩, fun U2 tw => ?_⟩
    obtain ⟨hi2, hm2⟩ := tw.go tI hi (Mv.alloc _ _ _) hm (Nat.le_refl _) hl9 hEl
    have bx : ∀ j u, #[Value.string x.u, .string x.w, .int .i64 x.t][j]? = some u → U2.cell? ⟨U.heap.size, j, none⟩ = some u := fun j u hj => tw.mv.cell (a := ⟨U.heap.size, j, none⟩) (by have := hltH.out; show ¬ U.heap.size = l9; omega) (cell_at rfl hj)
    have x0 : U2.cell? ⟨U.heap.size, 0, none⟩ = some (.string x.u) := bx 0 _ rfl
    have x1 : U2.cell? ⟨U.heap.size, 1, none⟩ = some (.string x.w) := bx 1 _ rfl
    have x2 : U2.cell? ⟨U.heap.size, 2, none⟩ = some (.int .i64 x.t) := bx 2 _ rfl
    have hU2 : Hid (U2.heap.size = U.heap.size + 1) := by show _ = _; have := tw.size; simpa using this
    obtain ⟨v, done, e1, e2, e3, e4, e5, e6⟩ := hi2
    obtain ⟨A, hA⟩ : ∃ A, U2.alloc (.cells #[.string x.u, .string x.w, .int .i64 x.t] 68) = A := ⟨_, rfl⟩
    have mA : ∀ F, Mv F U2 A := fun F => by rw [← hA]; exact Mv.alloc _ _ _
    have svA := e4.mv (mA fun _ => False) (fun _ _ h => h)
    have raA : RA A U2.heap.size 0 [x] := by
      intro j u hj
      rw [Nat.zero_add, ← hA]
      refine cell_at rfl ?_
      match j, hj with
      | 0, hj => exact hj
      | 1, hj => exact hj
      | 2, hj => exact hj
      | j + 3, hj => simp [flat] at hj
    have hdl : done.length + rest.length + 1 = xs.length := by rw [← e1]; simp; omega
    obtain ⟨v', A2, hrun, sv', m2, at2⟩ := svA.append raA (by rw [List.length_append]; omega) 1
    obtain ⟨A3, hA3⟩ : ∃ A3, A2.setCell ⟨n, 0, none⟩ v' = A3 := ⟨_, rfl⟩
    have n2 : ¬ Qd.nbk v = some n := e5
    have cA2 := (e3.mv (mA fun _ => False) (fun h => h)).mv m2 n2
    have clA3 : Cl n v' A3 := by rw [← hA3]; exact cA2.set v'
    have mS : Mv (fun k => k = n) A2 A3 := by rw [← hA3]; exact Mv.set1 (E := fun k => k = n) rfl _
    have szA : A.heap.size = U2.heap.size + 1 := by rw [← hA]; simp
    have hnU : n < U2.heap.size := e3.lt
    have n3 : Qd.nbk v' ≠ some n := fun e => by
      rcases at2 with q | ⟨k, q, hk⟩
      · exact e5 (q ▸ e)
      · rw [e] at q; injection q with q; omega
    have fin : Hid (Mv E2 U2 A3 ∧ ∃ E', Gr E2 U2 E' ∧ AI l0 xs (.slice p0 n0 c0) n w rest E' A3) := by
      refine ⟨(((mA E2).trans' (m2.mono fun k _ hk => (e2 k).2 (.inr hk))).trans' (mS.mono fun k _ hk => (e2 k).2 (.inl hk))), fun k => k = n ∨ Qd.nbk v' = some k, fun k hk => ?_, v', done ++ [x], by rw [List.append_assoc]; exact e1, fun _ => Iff.rfl, clA3, ?_, n3, ?_⟩
      · rcases hk with hk | hk
        · exact .inl ((e2 k).2 (.inl hk))
        · rcases at2 with q | ⟨k', q, hk'⟩
          · exact .inl ((e2 k).2 (.inr (by rw [← q]; exact hk)))
          · rw [hk] at q; injection q with q; exact .inr (by omega)
      · rw [← List.append_assoc]
        exact sv'.mv mS (fun k hk e => n3 (e ▸ hk))
      · rcases at2 with q | ⟨k', q, hk'⟩
        · rcases e6 with z | ⟨k, z, hk⟩
          · exact .inl (q.trans z)
          · exact .inr ⟨k, q.trans z, hk⟩
        · exact .inr ⟨k', q, by have := hm2.size; have := hnH.out; omega⟩
    obtain ⟨pv, cvv, rfl⟩ := e4.shape
    obtain ⟨pv', cv', rfl⟩ := sv'.shape
    have ec := e3.c
    have ef := cA2.f
    have ec2 := cA2.c
    obtain ⟨nd, hnd⟩ : ∃ nd, (l0 ++ done).length = nd := ⟨_, rfl⟩
    obtain ⟨nd', hnd'⟩ : ∃ nd', (l0 ++ done ++ [x]).length = nd' := ⟨_, rfl⟩
    rw [hnd] at hrun ec ec2
    rw [hnd'] at hrun hA3
    clear sv' m2 at2 e1 e2 e3 e4 e5 e6 n2 clA3 mS n3 svA raA mA hm2 hi hm tw hdl cA2 hnd hnd'
    gi_wp2_with (first | rw [hA] | rw [hA3] | (gi_at_builtin; refine wpListIn_append_run rfl _ _ 28 rfl _ _ _ _ rfl rfl hrun ?_))
    exact fin.out
  case done =>
    rintro D E2 U hD hK hnD hm hg ⟨v, done, e1, e2, e3, e4, e5, e6⟩
    rw [List.append_nil] at e1
    subst e1
    have nvD : ¬ Qd.nbk v = some D := fun e => hnD ((e2 D).2 (.inr e))
    have mP : Mv (fun j => j = D) U (U.putObj D (.deferred none)) := Mv.put (E := fun j => j = D) rfl _
    have fin : Hid (∃ v', Ending.returned v = .returned v' ∧ SV (U.putObj D (.deferred none)) v' (l0 ++ done) ∧ Mv (fun k => Qd.nbk (.slice p0 n0 c0) = some k) w (U.putObj D (.deferred none)) ∧ (Qd.nbk v' = Qd.nbk (.slice p0 n0 c0) ∨ ∃ k, Qd.nbk v' = some k ∧ w.heap.size ≤ k)) := by
      have s0 := hs0H.out
      refine ⟨v, rfl, e4.mv mP (fun k hk e => nvD (e ▸ hk)), ?_, e6⟩
      refine ((mWH.out (fun k => Qd.nbk (.slice p0 n0 c0) = some k)).trans (E' := fun k => k = n ∨ Qd.nbk (.slice p0 n0 c0) = some k) (fun k hk => ?_) hm).put_new (by omega) _
      rcases hk with hk | hk
      · exact .inr (by omega)
      · exact .inl hk
    obtain ⟨pv, cvv, rfl⟩ := e4.shape
    have ec := e3.c
    obtain ⟨nd, hnd⟩ : ∃ nd, (l0 ++ done).length = nd := ⟨_, rfl⟩
    rw [hnd] at fin ec
    clear hnd
    have hKH := hidP hK
    clear e2 e3 e4 e5 e6 mP nvD hK hm hg hI row
    gi_wp2_with fail
    refine ⟨by simp, .inl ⟨_, _, rfl, run_takeDeferred hKH.out, ?_⟩⟩
    refine ⟨_, by simp [results, Tryz.results48, go_sem]; rfl, ?_⟩
    exact fin.out
  case stop =>
    intro D c E2 U hD hK hnD hm hg h
    exact h.elim
set_option maxRecDepth 100000 in
set_option maxHeartbeats 1000000 in
theorem collect_any (xs : List Du) (gf : Nat) (lb : Array Value) (eg : ∀ args w, (callFunc gf args).run Tryz.prog w = .ok (.enter gf args) w) (w : World) (hrow : ∀ W0, Below w.heap.size w W0 → Row Tryz.prog gf lb Qd.encE xs (fun k => k = w.heap.size) W0) (hl : xs.length ≤ 400000) :
    Calls Tryz.prog 30 #[.func (.func gf) #[] lb] w fun e V => ∃ v, e = .returned v ∧ SV V v xs ∧ Below w.heap.size w V ∧ (∀ k, Qd.nbk v = some k → w.heap.size ≤ k) := by
  have hC : Hid (Calls Tryz.prog 48 #[.slice none 0 0, .func (.func gf) #[] lb] w fun e V => ∃ v, e = .returned v ∧ SV V v xs ∧ Below w.heap.size w V ∧ (∀ k, Qd.nbk v = some k → w.heap.size ≤ k)) := by
    refine (appendseq_any [] xs (.slice none 0 0) gf lb eg w (.inl ⟨rfl, rfl⟩) (fun W0 b => by
      have h := hrow W0 b
      have e : (fun k => k = w.heap.size ∨ Qd.nbk (.slice none 0 0) = some k) = fun k => k = w.heap.size := by
        funext k
        exact propext ⟨fun z => z.elim id (fun z => by cases z), .inl⟩
      rw [e]; exact h) (by simpa using hl)).mono ?_
    rintro e V ⟨v, rfl, h1, h2, h3⟩
    refine ⟨v, rfl, h1, h2.toBelow (Nat.le_refl _) (fun k _ e => by cases e), fun k hk => ?_⟩
    rcases h3 with q | ⟨k', q, hk'⟩
    · rw [hk] at q; cases q
    · rw [hk] at q; injection q with q; omega
  clear hrow eg
  go_enter Tryz.func30, Tryz.ntmps30
  go_wp2_with fail
  refine hC.out.mono ?_
  rintro e V ⟨v, rfl, hv⟩
  have hvH := hidP hv
  clear hv
  go_wp2_with fail
  go_ret
  exact ⟨v, rfl, hvH.out⟩
end Go.Proofs.YtdcidlgmnnaahaaGreat.Md
/- Elapse on a loop. -/
namespace Go.Proofs.YtdcidlgmnnaahaaGreat
open Go.RowKit Go.Shelf Go.Lib
attribute [local go_sem] Oper.semAt_some
def delA (xs T : List Du) : List Du := xs.foldl (fun S d => delT d.k S) T
theorem delA_snoc (xs T : List Du) (x : Du) : delA (xs ++ [x]) T = delT x.k (delA xs T) := by unfold delA; rw [List.foldl_append]; rfl
theorem delA_eq : ∀ (xs T : List Du), delA xs T = T.filter fun d => xs.all fun y => !decide (d.k = y.k)
  | [], T => by
    show T = T.filter fun _ => true
    exact (List.filter_eq_self.2 fun _ _ => rfl).symm
  | x :: xs, T => by
    show delA xs (delT x.k T) = _
    rw [delA_eq xs]
    unfold delT
    rw [List.filter_filter]
    refine List.filter_congr fun d _ => ?_
    simp [Bool.and_comm]
theorem delA_due {T : List Du} (hT : Ts T) (p : Du → Bool) : delA (T.filter p) T = T.filter fun d => !p d := by
  rw [delA_eq]
  refine List.filter_congr fun d hd => ?_
  cases hp : p d with
  | true =>
    rw [Bool.not_true, Bool.eq_false_iff]
    intro h
    rw [List.all_eq_true] at h
    have := h d (List.mem_filter.2 ⟨hd, hp⟩)
    simp at this
  | false =>
    rw [Bool.not_false, List.all_eq_true]
    intro y hy
    obtain ⟨hy1, hy2⟩ := List.mem_filter.1 hy
    have : ¬ d.k = y.k := fun e => by rw [hT.one hd hy1 e, hy2] at hp; cases hp
    simp [this]
set_option maxRecDepth 100000 in
set_option maxHeartbeats 1000000 in
theorem due_any (lb : Nat) (now : Int) (w : World) : Calls Tryz.prog 31 #[lp lb, .int .i64 now] w fun e V => e = .returned (.func (.func 49) #[] #[.pointer (some ⟨w.heap.size, 0, none⟩), .pointer (some ⟨w.heap.size + 1, 0, none⟩)]) ∧ V = (w.alloc (.cells #[lp lb] 24)).alloc (.cells #[.int .i64 now] 2) := by
  unfold lp
  go_enter Tryz.func31, Tryz.ntmps31
  go_wp2_with fail
  go_ret
  exact ⟨by simp, rfl⟩
theorem eg_due : ∀ args w, (callFunc 49 args).run Tryz.prog w = .ok (.enter 49 args) w := enters_of Tryz.func49 (by kernel_rfl) rfl
set_option maxRecDepth 100000 in
set_option maxHeartbeats 4000000 in
theorem elapse_any {w : World} {lb : Nat} {E : Nat → Prop} {L : List Wt} {n : Nat} {T : List Du} (h : Lo w lb E L n T) (now : Int) :
    Calls Tryz.prog 13 #[lp lb, .int .i64 now] w fun e V => ∃ v, e = .returned v ∧ Md.SV V v (T.filter fun d => decide (d.t ≤ now)) ∧ Lo V lb E L n (T.filter fun d => !decide (d.t ≤ now)) ∧ Mv E w V ∧ ∀ k, Qd.nbk v = some k → w.heap.size ≤ k := by
  have hT := h.ts
  have lE := h.lt.1
  have hTl := h.tlen
  obtain ⟨xs, hxs⟩ : ∃ xs, (T.filter fun d => decide (d.t ≤ now)) = xs := ⟨_, rfl⟩
  have hxl : xs.length ≤ 100000 := by rw [← hxs]; exact Nat.le_trans (List.length_filter_le _ _) hTl
  have hend : Hid (delA xs T = T.filter fun d => !decide (d.t ≤ now)) := by show _ = _; rw [← hxs]; exact delA_due hT _
  rw [← hend.out, hxs]
  obtain ⟨N, hN⟩ : ∃ N, w.heap.size = N := ⟨_, rfl⟩
  obtain ⟨W0, hW0⟩ : ∃ W0, (w.alloc (.cells #[lp lb] 24)).alloc (.cells #[.int .i64 now] 2) = W0 := ⟨_, rfl⟩
  have b0 : Below w.heap.size w W0 := by rw [← hW0]; exact ((Below.refl _ _).alloc (Nat.le_refl _) _).alloc (by simp) _
  have s0 : W0.heap.size = N + 2 := by rw [← hW0]; simp [hN]
  have hD := due_any lb now w
  rw [hW0, hN] at hD
  have c0 : W0.cell? ⟨N, 0, none⟩ = some (lp lb) := by rw [← hW0]; exact (Mv.alloc (fun _ => False) _ _).cell (fun h => h) (cell_at hN rfl)
  have c1 : W0.cell? ⟨N + 1, 0, none⟩ = some (.int .i64 now) := by rw [← hW0]; exact cell_at (by simp [hN]) rfl
  have hC : Hid (Calls Tryz.prog 30 #[.func (.func 49) #[] #[.pointer (some ⟨N, 0, none⟩), .pointer (some ⟨N + 1, 0, none⟩)]] W0 fun e V => ∃ p c, e = .returned (.slice p xs.length c) ∧ Md.SV V (.slice p xs.length c) xs ∧ Lo V lb E L n T ∧ Mv E w V ∧ (∀ k, Qd.nbk (.slice p xs.length c) = some k → N ≤ k)) := by
    refine (Md.collect_any xs _ _ eg_due W0 (fun W1 b1 => ?_) (by omega)).mono ?_
    · have l1 := (h.below b0).below b1
      rw [← hxs]
      have f : ∀ {k : Nat} {v : Value}, k < N + 2 → W0.cell? ⟨k, 0, none⟩ = some v → W1.cell? ⟨k, 0, none⟩ = some v := fun {k v} hk c => bcell b1 (by omega) c
      exact due_row _ W1 l1 (f (by omega) c0) (f (by omega) c1) (fun k hk e => by have := lE k hk; omega) (fun e => by omega) (fun e => by omega)
    · rintro e V ⟨v, rfl, sv, b, hv⟩
      obtain ⟨p, c, rfl⟩ := sv.shape
      have bb : Below w.heap.size w V := b0.trans (b.mono b0.size)
      exact ⟨p, c, rfl, sv, h.below bb, Mv.below bb, fun k hk => by have := hv k hk; omega⟩
  have lEH := hidP lE
  have hTH := hidP hT
  have hNH := hidP hN
  have llb : Hid (E lb) := h.lt.2
  obtain ⟨m, hm⟩ : ∃ m, xs.length = m := ⟨_, rfl⟩
  rw [hm] at hC hxl
  have hmH := hidP hm
  have hmI : (m : Int) ≤ 100000 := by omega
  clear h hT lE hN b0 s0 c0 c1 hm hxs hW0
  unfold lp at *
  go_enter Tryz.func13, Tryz.ntmps13
  go_wp2_with fail
  refine hD.mono ?_
  rintro e V1 ⟨rfl, rfl⟩
  go_wp2_with fail
  refine hC.out.mono ?_
  rintro e V2 ⟨p, c, rfl, sv, l2, m2, hv⟩
  have svH := hidP sv
  have l2H := hidP l2
  have m2H := hidP m2
  have hvH := hidP hv
  clear hD hC sv l2 m2 hv
  go_wp2_with fail
  go_loopw [14] (fun i wr => ∃ k : Nat, k ≤ m ∧ i = .int .i64 k ∧ Hid (Md.SV wr (.slice p m c) xs) ∧ Hid (Lo wr lb E L n (delA (xs.take k) T)) ∧ Hid (Mv E w wr)) (fun i _ => m - (intOf i).toNat)
  case atStart => exact ⟨0, Nat.zero_le _, rfl, svH, l2H, m2H⟩
  case round =>
    clear svH l2H m2H
    obtain ⟨k, hk, rfl, sv, l2, m2⟩ := hrel
    by_cases hlt : k < m
    · have hml := hmH.out
      obtain ⟨x, hx⟩ : ∃ x, xs[k]? = some x := ⟨_, List.getElem?_eq_getElem (by omega)⟩
      rcases sv.out with ⟨_, e⟩ | ⟨g, o, c', e, rs⟩
      · rw [e, List.length_nil] at hml; omega
      · injection e with e1 e2 e3
        subst e1
        have r0 := rs.ra.at hx
        have hkc : k < c := by have := rs.le; omega
        obtain ⟨r1, r2, r3⟩ := r0
        obtain ⟨W3, hW3⟩ : ∃ W3, wr.alloc (.cells #[.string x.u, .string x.w, .int .i64 x.t] 68) = W3 := ⟨_, rfl⟩
        obtain ⟨N3, hN3⟩ : ∃ N3, wr.heap.size = N3 := ⟨_, rfl⟩
        have b3 : Below wr.heap.size wr W3 := by rw [← hW3]; exact (Below.refl _ _).alloc (Nat.le_refl _) _
        have b3d : Below wr.heap.size wr W3.drew := b3.drew
        have l3 := l2.out.below b3d
        obtain ⟨mv, c5, f5, tm, sub, fin0⟩ := l3.tm
        obtain ⟨V, hrun, t1, m1⟩ := tm.drop x.k 0
        have nv : ∀ k, Qd.nbk (.slice (some ⟨g, o, none⟩) m c) = some k → ¬ mbk mv = some k := fun k hk e => by
          have h1 := hvH.out k hk
          have h2 := lEH.out k (sub k e).1
          have h3 := hNH.out
          omega
        have fin : Hid (Md.SV V (.slice (some ⟨g, o, none⟩) m c) xs ∧ Lo V lb E L n (delA (xs.take (k + 1)) T) ∧ Mv E w V) := by
          refine ⟨(sv.out.mv (F := fun _ => False) (Mv.below b3d) (fun _ _ h => h)).mv m1 nv, ?_, (m2.out.trans' (Mv.below b3d)).trans' (m1.mono fun k _ e => (sub k e).1)⟩
          rw [List.take_add_one, hx]
          show Lo V lb E L n (delA (xs.take k ++ [x]) T)
          rw [delA_snoc]
          exact fin0 V _ t1 (l3.ts.del x.k) (Nat.le_trans (List.length_filter_le _ _) l3.tlen) m1
        obtain ⟨xu, hxu⟩ : ∃ xu, x.u = xu := ⟨_, rfl⟩
        obtain ⟨xw, hxw⟩ : ∃ xw, x.w = xw := ⟨_, rfl⟩
        change (Builtin.delete_ #[55, 66] 0 #[mv, .agg #[.string x.u, .string x.w]]).run Tryz.prog W3.drew = _ at hrun
        rw [hxu] at hrun r1 hW3
        rw [hxw] at hrun r2 hW3
        have hS : (W3.drew.cell? ⟨N3, 0, none⟩ = some (.string xu) ∧ W3.drew.cell? ⟨N3, 1, none⟩ = some (.string xw)) ∧ W3.drew.cell? ⟨lb, 5, none⟩ = some mv := ⟨⟨by show W3.cell? _ = _; rw [← hW3]; exact cell_at hN3 rfl, by show W3.cell? _ = _; rw [← hW3]; exact cell_at hN3 rfl⟩, c5⟩
        clear sv l2 m2 rs b3 b3d l3 tm t1 m1 sub fin0 nv c5 f5 hml hx e2 e3 hxu hxw
        go_wp2_with (rw [hW3])
        refine Zs.region (S := fun W => (W.cell? ⟨N3, 0, none⟩ = some (.string xu) ∧ W.cell? ⟨N3, 1, none⟩ = some (.string xw)) ∧ W.cell? ⟨lb, 5, none⟩ = some mv) 9 (by kernel_rfl) ?_
        refine Zs.pure (i := 0) (oi := ⟨some 18, _, _, _, _, _⟩) (v := .pointer (some ⟨lb, 0, none⟩)) rfl (by kernel_rfl) (by kernel_rfl) (by kernel_rfl) (by decide) (fun _ _ _ h => h) (Or.inl ⟨by rfl, ?hy0⟩) hS ?_
        case hy0 => (intro w hSw; (try dsimp only at hSw); go_simp; try with_reducible rfl)
        simp only [Act.put, List.setIfInBounds_toArray, List.set_cons_zero, List.set_cons_succ]
        refine Zs.pure (i := 1) (oi := ⟨some 19, _, _, _, _, _⟩) (v := .pointer (some ⟨lb, 0, none⟩)) rfl (by kernel_rfl) (by kernel_rfl) (by kernel_rfl) (by decide) (fun _ _ _ h => h) (Or.inl ⟨by rfl, ?hy1⟩) hS ?_
        case hy1 => (intro w hSw; (try dsimp only at hSw); go_simp; try with_reducible rfl)
        simp only [Act.put, List.setIfInBounds_toArray, List.set_cons_zero, List.set_cons_succ]
        refine Zs.pure (i := 2) (oi := ⟨some 20, _, _, _, _, _⟩) (v := .pointer (some ⟨lb, 5, none⟩)) rfl (by kernel_rfl) (by kernel_rfl) (by kernel_rfl) (by decide) (fun _ _ _ h => h) (Or.inl ⟨by rfl, ?hy2⟩) hS ?_
        case hy2 => (intro w hSw; (try dsimp only at hSw); go_simp; try with_reducible rfl)
        simp only [Act.put, List.setIfInBounds_toArray, List.set_cons_zero, List.set_cons_succ]
        refine Zs.take (i := 3) (oi := ⟨some 21, _, _, _, _, _⟩) (v := mv) rfl (by kernel_rfl) (by kernel_rfl) (by kernel_rfl) (by decide) (by kernel_rfl) (by kernel_rfl) (fun _ _ _ h => h) (Or.inl ⟨by rfl, ?hy3⟩) hS ?_
        case hy3 => (intro w hSw; (try dsimp only at hSw); go_simp; try with_reducible rfl)
        simp only [Act.put, List.setIfInBounds_toArray, List.set_cons_zero, List.set_cons_succ]
        refine Zs.pure (i := 4) (oi := ⟨some 22, _, _, _, _, _⟩) (v := .pointer (some ⟨N3, 0, none⟩)) rfl (by kernel_rfl) (by kernel_rfl) (by kernel_rfl) (by decide) (fun _ _ _ h => h) (Or.inl ⟨by rfl, ?hy4⟩) hS ?_
        case hy4 => (intro w hSw; (try dsimp only at hSw); go_simp; try with_reducible rfl)
        simp only [Act.put, List.setIfInBounds_toArray, List.set_cons_zero, List.set_cons_succ]
        refine Zs.takeC (i := 5) (oi := ⟨some 23, _, _, _, _, _⟩) (v := .string xu) 10 rfl (by kernel_rfl) (by kernel_rfl) (by kernel_rfl) (by decide) (by kernel_rfl) (by kernel_rfl) (by kernel_rfl) (fun _ _ _ h => h) (Or.inl ⟨by rfl, ?hy5⟩) hS ?_
        case hy5 => (intro w hSw; (try dsimp only at hSw); go_simp; try with_reducible rfl)
        simp only [Act.put, List.setIfInBounds_toArray, List.set_cons_zero, List.set_cons_succ]
        refine Zs.pure (i := 6) (oi := ⟨some 24, _, _, _, _, _⟩) (v := .pointer (some ⟨N3, 1, none⟩)) rfl (by kernel_rfl) (by kernel_rfl) (by kernel_rfl) (by decide) (fun _ _ _ h => h) (Or.inl ⟨by rfl, ?hy6⟩) hS ?_
        case hy6 => (intro w hSw; (try dsimp only at hSw); go_simp; try with_reducible rfl)
        simp only [Act.put, List.setIfInBounds_toArray, List.set_cons_zero, List.set_cons_succ]
        refine Zs.takeC (i := 7) (oi := ⟨some 25, _, _, _, _, _⟩) (v := .string xw) 10 rfl (by kernel_rfl) (by kernel_rfl) (by kernel_rfl) (by decide) (by kernel_rfl) (by kernel_rfl) (by kernel_rfl) (fun _ _ _ h => h) (Or.inl ⟨by rfl, ?hy7⟩) hS ?_
        case hy7 => (intro w hSw; (try dsimp only at hSw); go_simp; try with_reducible rfl)
        simp only [Act.put, List.setIfInBounds_toArray, List.set_cons_zero, List.set_cons_succ]
        refine Zs.pure (i := 8) (oi := ⟨some 26, _, _, _, _, _⟩) (v := .agg #[.string xu, .string xw]) rfl (by kernel_rfl) (by kernel_rfl) (by kernel_rfl) (by decide) (fun _ _ _ h => h) (Or.inl ⟨by rfl, ?hy8⟩) hS ?_
        case hy8 => (intro w hSw; (try dsimp only at hSw); go_simp; try with_reducible rfl)
        simp only [Act.put, List.setIfInBounds_toArray, List.set_cons_zero, List.set_cons_succ]
        refine Zs.one (i := 9) (oi := ⟨none, _, _, _, _, _⟩) (by kernel_rfl) rfl (fun K hK => ?_)
        go_simp
        refine hK.out _ _ (fun q => absurd q (by decide)) ?_
        clear hK K
        try simp only [Act.put, List.setIfInBounds_toArray, List.set_cons_zero, List.set_cons_succ]
        refine Zs.done (by kernel_rfl) ?_ _
        clear hS
        go_wp2_with fail
        go_roundw
        case rel => exact ⟨k + 1, by omega, by go_num, fin.out.1, fin.out.2.1, fin.out.2.2⟩
        case measure => simp [intOf]; omega
    · have hkm : Hid (delA (xs.take k) T = delA xs T) := by
        show _ = _
        rw [List.take_of_length_le (by have := hmH.out; omega)]
      rw [hkm.out] at l2
      clear hkm
      go_wp2_with fail
      go_ret
      exact ⟨_, rfl, sv.out, l2.out, m2.out, fun k hk => Nat.le_trans (Nat.le_of_eq hNH.out) (hvH.out k hk)⟩
end Go.Proofs.YtdcidlgmnnaahaaGreat
