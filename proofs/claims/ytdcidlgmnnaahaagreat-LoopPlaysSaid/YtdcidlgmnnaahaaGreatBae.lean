import Derived.Test.YtdcidlgmnnaahaaGreatBab
import Derived.Test.YtdcidlgmnnaahaaGreatBac
import Derived.Test.YtdcidlgmnnaahaaGreatBad
import Derived.Laws.Cover1
/- Trees of a queue in memory: rows of records, lists of trees; append. -/
namespace Go.Proofs.YtdcidlgmnnaahaaGreat.Qw
open Go.RowKit Go.Shelf Go.Lib
abbrev El := Wt
abbrev ev (x : El) : Value := .agg #[.int .i64 x.k, .int .i64 x.p, .int .i64 x.s, .string x.u, .string x.x, .int .i64 x.n]
abbrev vc0 (x : El) : Value := .int .i64 x.k
abbrev vc1 (x : El) : Value := .int .i64 x.p
abbrev vc2 (x : El) : Value := .int .i64 x.s
abbrev vc3 (x : El) : Value := .string x.u
abbrev vc4 (x : El) : Value := .string x.x
abbrev vc5 (x : El) : Value := .int .i64 x.n
abbrev ptrV (p : Option Nat) : Value := .pointer (p.map fun b => ⟨b, 0, none⟩)
/-- A tree as it lies: its value, its turn, the block of the list behind it. -/
structure Rec where
  v : El
  t : Int
  p : Option Nat
def Rec.val (x : Rec) : Value := .agg #[vc0 x.v, vc1 x.v, vc2 x.v, vc3 x.v, vc4 x.v, vc5 x.v, .int .i64 x.t, ptrV x.p]
def flat : List Rec → List Value
  | [] => []
  | x :: r => vc0 x.v :: vc1 x.v :: vc2 x.v :: vc3 x.v :: vc4 x.v :: vc5 x.v :: .int .i64 x.t :: ptrV x.p :: flat r
theorem flat_len : ∀ xs, (flat xs).length = xs.length * 8
  | [] => rfl
  | x :: r => by simp [flat, flat_len r]; omega
theorem flat_app : ∀ xs ys, flat (xs ++ ys) = flat xs ++ flat ys
  | [], _ => rfl
  | x :: r, ys => by simp [flat, flat_app r ys]
theorem flat_one : ∀ xs, ∀ u ∈ flat xs, u.oneCell' = true
  | [], u, h => by cases h
  | x :: r, u, h => by
    simp only [flat, List.mem_cons] at h
    rcases h with rfl | rfl | rfl | rfl | rfl | rfl | rfl | rfl | h
    · rfl
    · rfl
    · rfl
    · rfl
    · rfl
    · rfl
    · rfl
    · rfl
    · exact flat_one r u h
theorem flat_at : ∀ (xs : List Rec) (j : Nat) (x : Rec), xs[j]? = some x → ((flat xs)[j * 8]? = some (vc0 x.v) ∧ (flat xs)[j * 8 + 1]? = some (vc1 x.v) ∧ (flat xs)[j * 8 + 2]? = some (vc2 x.v) ∧ (flat xs)[j * 8 + 3]? = some (vc3 x.v) ∧ (flat xs)[j * 8 + 4]? = some (vc4 x.v) ∧ (flat xs)[j * 8 + 5]? = some (vc5 x.v)) ∧ (flat xs)[j * 8 + 6]? = some (.int .i64 x.t) ∧ (flat xs)[j * 8 + 7]? = some (ptrV x.p)
  | [], j, x, h => by cases h
  | y :: r, 0, x, h => by simp at h; subst h; exact ⟨⟨rfl, rfl, rfl, rfl, rfl, rfl⟩, rfl, rfl⟩
  | y :: r, j + 1, x, h => by
    have := flat_at r j x (by simpa using h)
    rw [show (j + 1) * 8 = j * 8 + 8 by omega, show j * 8 + 8 + 1 = j * 8 + 1 + 8 by omega, show j * 8 + 8 + 2 = j * 8 + 2 + 8 by omega, show j * 8 + 8 + 3 = j * 8 + 3 + 8 by omega, show j * 8 + 8 + 4 = j * 8 + 4 + 8 by omega, show j * 8 + 8 + 5 = j * 8 + 5 + 8 by omega, show j * 8 + 8 + 6 = j * 8 + 6 + 8 by omega, show j * 8 + 8 + 7 = j * 8 + 7 + 8 by omega]
    exact this
theorem infoT : ∃ i, Tryz.prog.info? 94 = some i ∧ i.zero = some (.agg #[.int .i64 0, .int .i64 0, .int .i64 0, .string ⟨#[]⟩, .string ⟨#[]⟩, .int .i64 0, .int .i64 0, .pointer none]) ∧ i.size = 8 ∧ i.bytes = 80 := by
  have h : (Tryz.prog.info? 94).map (fun i => (i.zero, i.size, i.bytes)) = some (some (.agg #[.int .i64 0, .int .i64 0, .int .i64 0, .string ⟨#[]⟩, .string ⟨#[]⟩, .int .i64 0, .int .i64 0, .pointer none]), 8, 80) := by kernel_rfl
  cases e : Tryz.prog.info? 94 with
  | none => rw [e] at h; cases h
  | some i => rw [e] at h; simp at h; exact ⟨i, rfl, h⟩

/-- The records xs lie in block g from o on. -/
def RA (w : World) (g o : Nat) (xs : List Rec) : Prop := ∀ j u, (flat xs)[j]? = some u → w.cell? ⟨g, o + j, none⟩ = some u
/-- There is room for cap records. -/
structure Rm (w : World) (g o cap : Nat) : Prop where
  lt : g < w.heap.size
  mx : cap ≤ maxLen
  so : ∀ j, j < cap * 8 → (w.cell? ⟨g, o + j, none⟩).isSome = true
  fz : ∀ j, j < cap * 8 → w.frozen? ⟨g, o + j, none⟩ = false
theorem RA.nil (w : World) (g o : Nat) : RA w g o [] := fun j u h => by cases h
theorem RA.cv {S : Nat → Nat → Prop} {w w' : World} {g o : Nat} {xs : List Rec} (h : RA w g o xs) (m : Cv S w w') (hn : ∀ j, o ≤ j → j < o + xs.length * 8 → ¬ S g j) : RA w' g o xs := fun j u hj => by
  have hl : j < xs.length * 8 := by rw [← flat_len]; exact (List.getElem?_eq_some_iff.1 hj).1
  exact m.cell (hn _ (by omega) (by omega)) (h j u hj)
theorem Rm.cv {S : Nat → Nat → Prop} {w w' : World} {g o cap : Nat} (h : Rm w g o cap) (m : Cv S w w') : Rm w' g o cap :=
  ⟨Nat.lt_of_lt_of_le h.lt m.size, h.mx, fun j hj => m.pr _ _ h.lt (h.so j hj), fun j hj => (m.fr _ _ h.lt).trans (h.fz j hj)⟩
theorem Rm.sub {w : World} {g o cap : Nat} (h : Rm w g o cap) {a c : Nat} (hc : a + c ≤ cap) : Rm w g (o + a * 8) c :=
  ⟨h.lt, Nat.le_trans (by omega) h.mx, fun j hj => by rw [Nat.add_assoc]; exact h.so _ (by omega), fun j hj => by rw [Nat.add_assoc]; exact h.fz _ (by omega)⟩
theorem RA.app {w : World} {g o : Nat} {xs ys : List Rec} : RA w g o (xs ++ ys) ↔ RA w g o xs ∧ RA w g (o + xs.length * 8) ys := by
  unfold RA
  rw [flat_app]
  constructor
  · intro h
    refine ⟨fun j u hj => h j u (by rw [List.getElem?_append_left (List.getElem?_eq_some_iff.1 hj).1]; exact hj), fun j u hj => ?_⟩
    rw [Nat.add_assoc]
    exact h _ u (by rw [List.getElem?_append_right (by rw [flat_len]; omega), flat_len, show xs.length * 8 + j - xs.length * 8 = j by omega]; exact hj)
  · rintro ⟨h1, h2⟩ j u hj
    rcases Nat.lt_or_ge j (xs.length * 8) with hl | hl
    · exact h1 j u (by rw [List.getElem?_append_left (by rw [flat_len]; exact hl)] at hj; exact hj)
    · rw [List.getElem?_append_right (by rw [flat_len]; exact hl), flat_len] at hj
      have := h2 _ u hj
      rw [Nat.add_assoc, show xs.length * 8 + (j - xs.length * 8) = j by omega] at this
      exact this
theorem RA.at {w : World} {g o : Nat} {xs : List Rec} (h : RA w g o xs) {j : Nat} {x : Rec} (hx : xs[j]? = some x) :
    (w.cell? ⟨g, o + j * 8, none⟩ = some (vc0 x.v) ∧ w.cell? ⟨g, o + j * 8 + 1, none⟩ = some (vc1 x.v) ∧ w.cell? ⟨g, o + j * 8 + 2, none⟩ = some (vc2 x.v) ∧ w.cell? ⟨g, o + j * 8 + 3, none⟩ = some (vc3 x.v) ∧ w.cell? ⟨g, o + j * 8 + 4, none⟩ = some (vc4 x.v) ∧ w.cell? ⟨g, o + j * 8 + 5, none⟩ = some (vc5 x.v)) ∧ w.cell? ⟨g, o + j * 8 + 6, none⟩ = some (.int .i64 x.t) ∧ w.cell? ⟨g, o + j * 8 + 7, none⟩ = some (ptrV x.p) := by
  obtain ⟨h1, h2, h3⟩ := flat_at xs j x hx
  exact ⟨⟨h _ _ h1.1, h _ _ h1.2.1, h _ _ h1.2.2.1, h _ _ h1.2.2.2.1, h _ _ h1.2.2.2.2.1, h _ _ h1.2.2.2.2.2⟩, h _ _ h2, h _ _ h3⟩
/-- A slice of records. -/
structure RS (w : World) (g o cap : Nat) (xs : List Rec) : Prop where
  le : xs.length ≤ cap
  rm : Rm w g o cap
  ra : RA w g o xs
abbrev slv (g o n cap : Nat) : Value := .slice (some ⟨g, o, none⟩) n cap
theorem RS.cv {S : Nat → Nat → Prop} {w w' : World} {g o cap : Nat} {xs : List Rec} (h : RS w g o cap xs) (m : Cv S w w') (hn : ∀ j, o ≤ j → j < o + xs.length * 8 → ¬ S g j) : RS w' g o cap xs := ⟨h.le, h.rm.cv m, h.ra.cv m hn⟩
theorem RS.own {w : World} {v : Value} {base : Nat} {e : TypeId} {xs : List Rec} (h : w.ownsRow base e 8 v xs.length (flat xs)) (h0 : xs ≠ []) : ∃ g cap, v = slv g 0 xs.length cap ∧ base ≤ g ∧ RS w g 0 cap xs := by
  rcases h.2 with ⟨rfl, h1⟩ | ⟨g, cap, cur, rfl, hb, hg, h1, h2, h3, h4⟩
  · exact absurd (List.eq_nil_of_length_eq_zero h1) h0
  · refine ⟨g, cap, rfl, hb, h1, ⟨(Array.getElem?_eq_some_iff.1 hg).1, h2, fun j hj => ?_, fun j hj => ?_⟩, fun j x hx => ?_⟩
    · unfold World.cell?
      rw [hg]
      have : j < cur.size := by rw [h3]; omega
      simp [this]
    · unfold World.frozen?
      rw [hg]
      simp
    · have := h.cells (g := g) rfl j x hx
      rw [Addr.add_lit] at this
      exact this
theorem app_room {w : World} {g o cap : Nat} {xs ys : List Rec} (h : RS w g o cap xs) {g2 o2 c2 : Nat} (hy : RA w g2 o2 ys) (hr : xs.length + ys.length ≤ cap) (ty : TypeId) :
    ∃ w', (Builtin.append_ #[52, 52] ty #[slv g o xs.length cap, slv g2 o2 ys.length c2]).run Tryz.prog w = .ok (slv g o (xs.length + ys.length) cap) w' ∧ RS w' g o cap (xs ++ ys) ∧ Cv (fun k j => k = g ∧ o + xs.length * 8 ≤ j ∧ j < o + (xs.length + ys.length) * 8) w w' := by
  obtain ⟨i0, hi, hz0, hz1, hz2⟩ := infoT
  have hrun := run_append_room_cells (P := Tryz.prog) w 52 ty 94 _ Tryz.underlying52 hi g o xs.length cap ⟨g2, o2, none⟩ ys.length c2 (flat ys) (by rw [hz1, flat_len]) (fun j u hj => by rw [Addr.add_lit]; exact hy j u hj) (flat_one ys) hr (fun j hj => by rw [flat_len] at hj; rw [hz1, Nat.add_assoc]; exact h.rm.so _ (by omega)) (fun j hj => by rw [flat_len] at hj; rw [hz1, Nat.add_assoc]; exact h.rm.fz _ (by omega))
  rw [hz1] at hrun
  have hth : ∀ j, j < (flat ys).length → (w.cell? ⟨g, o + xs.length * 8 + j, none⟩).isSome = true := fun j hj => by rw [flat_len] at hj; rw [Nat.add_assoc]; exact h.rm.so _ (by omega)
  have m := Cv.cells w g (o + xs.length * 8) (flat ys)
  rw [flat_len] at m
  have m2 : Cv (fun k j => k = g ∧ o + xs.length * 8 ≤ j ∧ j < o + (xs.length + ys.length) * 8) w (w.setCells g (o + xs.length * 8) (flat ys)) := m.mono fun k j _ h => ⟨h.1, h.2.1, by have := h.2.2; omega⟩
  refine ⟨_, hrun, ⟨by rw [List.length_append]; exact hr, h.rm.cv m2, RA.app.2 ⟨h.ra.cv m2 (fun j _ hj q => by have := q.2.1; omega), fun j u hj => ?_⟩⟩, m2⟩
  obtain ⟨hlt, hge⟩ := List.getElem?_eq_some_iff.1 hj
  rw [World.cell?_setCells_in g _ _ w hth j hlt, hge]
theorem app_grow {w : World} {g o cap : Nat} {xs ys : List Rec} (h : RS w g o cap xs) {g2 o2 c2 : Nat} (hy : RA w g2 o2 ys) (hr : cap < xs.length + ys.length) (hx : xs.length ≤ 1000000) (hyl : ys.length ≤ 1000000) (ty : TypeId) :
    ∃ g' c' w', (Builtin.append_ #[52, 52] ty #[slv g o xs.length cap, slv g2 o2 ys.length c2]).run Tryz.prog w = .ok (slv g' 0 (xs.length + ys.length) c') w' ∧ w.heap.size ≤ g' ∧ RS w' g' 0 c' (xs ++ ys) ∧ Below w.heap.size w w' := by
  obtain ⟨i0, hi, hz0, hz1, hz2⟩ := infoT
  obtain ⟨v', w', hrun, ho, hgr⟩ := run_append_arg_grows (P := Tryz.prog) w 52 ty 94 _ _ 8 80 Tryz.underlying52 hi hz0 hz1 hz2 rfl (by decide) ⟨g, o, none⟩ xs.length cap (flat xs) (flat_len xs) (fun j u hj => by rw [Addr.add_lit]; exact h.ra j u hj) ⟨g2, o2, none⟩ ys.length c2 (flat ys) (flat_len ys) (fun j u hj => by rw [Addr.add_lit]; exact hy j u hj) hr (by unfold maxLen; omega) (by omega)
  rw [← flat_app, ← List.length_append] at ho
  obtain ⟨g', c', rfl, hb, hs⟩ := RS.own ho (by intro e; have := congrArg List.length e; rw [List.length_append, List.length_nil] at this; omega)
  rw [List.length_append] at hrun
  exact ⟨g', c', w', hrun, hb, hs, ((Mv.refl (fun _ => False) w).grown hgr (fun k e => by cases e)).toBelow (Nat.le_refl _) (fun _ _ h => h)⟩
theorem app_nil {w : World} {ys : List Rec} {g2 o2 c2 : Nat} (hy : RA w g2 o2 ys) (hy0 : ys ≠ []) (hyl : ys.length ≤ 1000000) (ty : TypeId) :
    ∃ g' c' w', (Builtin.append_ #[52, 52] ty #[.slice none 0 0, slv g2 o2 ys.length c2]).run Tryz.prog w = .ok (slv g' 0 ys.length c') w' ∧ w.heap.size ≤ g' ∧ RS w' g' 0 c' ys ∧ Below w.heap.size w w' := by
  obtain ⟨i0, hi, hz0, hz1, hz2⟩ := infoT
  obtain ⟨v', w', hrun, ho, hgr, _, hat⟩ := run_append_own_at (P := Tryz.prog) w w.heap.size 52 ty 94 _ _ 8 80 Tryz.underlying52 hi hz0 hz1 hz2 rfl (by decide) (.slice none 0 0) 0 [] (World.ownsRow_nil w _ _ _) ⟨g2, o2, none⟩ ys.length c2 (flat ys) (flat_len ys) (fun j u hj => by rw [Addr.add_lit]; exact hy j u hj) (flat_one ys) (by unfold maxLen; omega) (by omega) (Nat.le_refl _)
  rw [Nat.zero_add, List.nil_append] at ho
  obtain ⟨g', c', rfl, hb, hs⟩ := RS.own ho hy0
  exact ⟨g', c', w', hrun, hb, hs, ((Mv.refl (fun _ => False) w).grown hgr (fun k e => by cases e)).toBelow (Nat.le_refl _) (fun _ _ h => h)⟩
theorem app_none {w : World} {g o cap : Nat} {xs : List Rec} (h : RS w g o cap xs) (p : Option Addr) (c2 : Nat) (ty : TypeId) :
    (Builtin.append_ #[52, 52] ty #[slv g o xs.length cap, .slice p 0 c2]).run Tryz.prog w = .ok (slv g o xs.length cap) w := by
  obtain ⟨i0, hi, hz0, hz1, hz2⟩ := infoT
  have hle := h.le
  cases p <;> simp [Builtin.append_, run_underlying Tryz.underlying52, sizeOf, typeInfo, hi, Builtin.lenOf, Builtin.firstCells, loadCells, loadCellsFrom, storeCells, hle]
/-- clear of n records. -/
theorem run_clearR (w : World) (ty : TypeId) {g o n c : Nat} (h : Rm w g o (n + 1)) :
    ∃ vs : List Value, vs.length = (n + 1) * 8 ∧ (Builtin.clear_ #[52] ty #[slv g o (n + 1) c]).run Tryz.prog w = .ok (.tuple #[]) (w.setCells g o vs) := by
  have hz : ∀ w, (zeroValue 94).run Tryz.prog w = .ok (.agg #[.int .i64 0, .int .i64 0, .int .i64 0, .string ⟨#[]⟩, .string ⟨#[]⟩, .int .i64 0, .int .i64 0, .pointer none]) w := fun w => by kernel_rfl
  obtain ⟨vs, hvs⟩ : ∃ vs, (Builtin.zeroCells (Value.agg #[.int .i64 0, .int .i64 0, .int .i64 0, .string ⟨#[]⟩, .string ⟨#[]⟩, .int .i64 0, .int .i64 0, .pointer none]).cells (n + 1)).toList = vs := ⟨_, rfl⟩
  have hl : vs.length = (n + 1) * 8 := by rw [← hvs, Array.length_toList, size_zeroCells]; rfl
  have h1 : ∀ u ∈ vs, u.oneCell' = true := by
    intro u hu
    rw [← hvs, Array.mem_toList_iff] at hu
    unfold Builtin.zeroCells at hu
    obtain ⟨i, _, rfl⟩ := Array.mem_map.1 hu
    have e : (Value.agg #[.int .i64 0, .int .i64 0, .int .i64 0, .string ⟨#[]⟩, .string ⟨#[]⟩, .int .i64 0, .int .i64 0, .pointer none]).cells = #[.int .i64 0, .int .i64 0, .int .i64 0, .string ⟨#[]⟩, .string ⟨#[]⟩, .int .i64 0, .int .i64 0, .pointer none] := rfl
    rw [e]
    have : i % 8 = 0 ∨ i % 8 = 1 ∨ i % 8 = 2 ∨ i % 8 = 3 ∨ i % 8 = 4 ∨ i % 8 = 5 ∨ i % 8 = 6 ∨ i % 8 = 7 := by omega
    show (#[.int .i64 0, .int .i64 0, .int .i64 0, .string ⟨#[]⟩, .string ⟨#[]⟩, .int .i64 0, Value.int .i64 0, Value.pointer none][i % 8]!).oneCell' = true
    rcases this with q | q | q | q | q | q | q | q <;> rw [q] <;> rfl
  have hst := run_storeCells_cells (P := Tryz.prog) g o vs 0 w (by rw [hl]; simpa using h.so) (by rw [hl]; simpa using h.fz) h1
  simp only [Nat.add_zero] at hst
  refine ⟨vs, hl, ?_⟩
  simp [Builtin.clear_, run_underlying Tryz.underlying52, hz, hvs, hst]
/-- The list at p holds the trees f; its blocks are of B. -/
def LR (w : World) (B : Nat → Prop) : Fo El → Option Nat → Prop
  | .nil, p => p = none
  | .cons v t k r, p => ∃ b pk pr, p = some b ∧ B b ∧ (w.cell? ⟨b, 0, none⟩ = some (vc0 v) ∧ w.cell? ⟨b, 1, none⟩ = some (vc1 v) ∧ w.cell? ⟨b, 2, none⟩ = some (vc2 v) ∧ w.cell? ⟨b, 3, none⟩ = some (vc3 v) ∧ w.cell? ⟨b, 4, none⟩ = some (vc4 v) ∧ w.cell? ⟨b, 5, none⟩ = some (vc5 v)) ∧ w.cell? ⟨b, 6, none⟩ = some (.int .i64 t) ∧ w.cell? ⟨b, 7, none⟩ = some (ptrV pk) ∧ w.cell? ⟨b, 8, none⟩ = some (ptrV pr) ∧ LR w B k pk ∧ LR w B r pr
theorem LR.cv {S : Nat → Nat → Prop} {w w' : World} {B B' : Nat → Prop} (m : Cv S w w') (hB : ∀ k, B k → B' k) (hS : ∀ k, B k → ∀ j, ¬ S k j) : ∀ (f : Fo El) (p : Option Nat), LR w B f p → LR w' B' f p
  | .nil, _, h => h
  | .cons v t k r, p, h => by
    obtain ⟨b, pk, pr, rfl, hb, c0, c1, c2, c3, hk, hr⟩ := h
    exact ⟨b, pk, pr, rfl, hB b hb, ⟨m.cell (hS b hb 0) c0.1, m.cell (hS b hb 1) c0.2.1, m.cell (hS b hb 2) c0.2.2.1, m.cell (hS b hb 3) c0.2.2.2.1, m.cell (hS b hb 4) c0.2.2.2.2.1, m.cell (hS b hb 5) c0.2.2.2.2.2⟩, m.cell (hS b hb 6) c1, m.cell (hS b hb 7) c2, m.cell (hS b hb 8) c3, LR.cv m hB hS k pk hk, LR.cv m hB hS r pr hr⟩
/-- Records and the trees that they are. -/
def RF (w : World) (B : Nat → Prop) : List Rec → List (Tr El) → Prop
  | [], [] => True
  | x :: xs, y :: ys => (x.v = y.v ∧ x.t = y.t ∧ LR w B y.k x.p) ∧ RF w B xs ys
  | _, _ => False
theorem RF.cv {S : Nat → Nat → Prop} {w w' : World} {B B' : Nat → Prop} (m : Cv S w w') (hB : ∀ k, B k → B' k) (hS : ∀ k, B k → ∀ j, ¬ S k j) : ∀ (xs : List Rec) (ys : List (Tr El)), RF w B xs ys → RF w' B' xs ys
  | [], [], _ => trivial
  | _ :: xs, _ :: ys, h => ⟨⟨h.1.1, h.1.2.1, LR.cv m hB hS _ _ h.1.2.2⟩, RF.cv m hB hS xs ys h.2⟩
  | [], _ :: _, h => h.elim
  | _ :: _, [], h => h.elim
theorem RF.len {w : World} {B : Nat → Prop} : ∀ {xs : List Rec} {ys : List (Tr El)}, RF w B xs ys → xs.length = ys.length
  | [], [], _ => rfl
  | _ :: _, _ :: _, h => by simp only [List.length_cons, RF.len h.2]
  | [], _ :: _, h => h.elim
  | _ :: _, [], h => h.elim
theorem RF.app {w : World} {B : Nat → Prop} : ∀ {xs : List Rec} {ys : List (Tr El)} {xs2 : List Rec} {ys2 : List (Tr El)}, RF w B xs ys → RF w B xs2 ys2 → RF w B (xs ++ xs2) (ys ++ ys2)
  | [], [], _, _, _, h => h
  | _ :: _, _ :: _, _, _, h, h2 => ⟨h.1, RF.app h.2 h2⟩
  | [], _ :: _, _, _, h, _ => h.elim
  | _ :: _, [], _, _, h, _ => h.elim
theorem RF.split {w : World} {B : Nat → Prop} : ∀ {xs : List Rec} {ys ys2 : List (Tr El)}, RF w B xs (ys ++ ys2) → ∃ a b, xs = a ++ b ∧ RF w B a ys ∧ RF w B b ys2
  | xs, [], _, h => ⟨[], xs, rfl, trivial, h⟩
  | [], _ :: _, _, h => h.elim
  | x :: xs, y :: ys, _, h => by
    obtain ⟨a, b, rfl, h1, h2⟩ := RF.split (xs := xs) (ys := ys) h.2
    exact ⟨x :: a, b, rfl, ⟨h.1, h1⟩, h2⟩
theorem RF.mem {w : World} {B : Nat → Prop} {key : El → Int} {q : Int → Prop} : ∀ {xs : List Rec} {ys : List (Tr El)}, RF w B xs ys → (∀ y ∈ ys, q (key y.v)) → ∀ x ∈ xs, q (key x.v)
  | [], [], _, _, x, hx => by cases hx
  | x :: xs, y :: ys, h, hq, z, hz => by
    rcases List.mem_cons.1 hz with rfl | hz
    · rw [h.1.1]; exact hq y (List.mem_cons_self ..)
    · exact RF.mem h.2 (fun y hy => hq y (List.mem_cons_of_mem _ hy)) z hz
  | [], _ :: _, h, _, _, _ => h.elim
  | _ :: _, [], h, _, _, _ => h.elim
end Go.Proofs.YtdcidlgmnnaahaaGreat.Qw
/- Whether one is ahead of another: of structs. -/
namespace Go.Proofs.YtdcidlgmnnaahaaGreat.Qw
open Go.RowKit Go.Shelf Go.Lib
attribute [local go_sem] Oper.semAt_some
/-- A function that tells whether one's key is less than another's. -/
structure Bf (nb : NB) (key : El → Int) : Prop where
  fv : nb.f = .func (.func nb.n) #[] #[]
  eg : ∀ args w, (callFunc nb.n args).run Tryz.prog w = .ok (.enter nb.n args) w
  ca : ∀ (a b : El) (w : World), Calls Tryz.prog nb.n #[ev a, ev b] w fun e w' => e = .returned (.bool (decide (key a < key b))) ∧ Below w.heap.size w w'
def fnV (nb : NB) : Value := nb.f
set_option maxRecDepth 100000 in
set_option maxHeartbeats 2000000 in
theorem ahead_any {nb : NB} {key : El → Int} (hB : Bf nb key) (q : Nat) (a b : El) (w : World) (hq : w.cell? ⟨q, 0, none⟩ = some (fnV nb)) :
    Calls Tryz.prog 90 #[.pointer (some ⟨q, 0, none⟩), ev a, ev b] w fun e w' => e = .returned (.bool (decide (key a < key b))) ∧ Below w.heap.size w w' := by
  unfold fnV at hq
  rw [hB.fv] at hq
  obtain ⟨n, hn⟩ : ∃ n, w.heap.size = n := ⟨_, rfl⟩
  obtain ⟨W0, hW0⟩ : ∃ W0, (w.alloc (.cells #[vc0 a, vc1 a, vc2 a, vc3 a, vc4 a, vc5 a] 61)).alloc (.cells #[vc0 b, vc1 b, vc2 b, vc3 b, vc4 b, vc5 b] 61) = W0 := ⟨_, rfl⟩
  have b0 : Below w.heap.size w W0 := by rw [← hW0]; exact ((Below.refl _ _).alloc (Nat.le_refl _) _).alloc (by simp) _
  have s0 : W0.heap.size = n + 2 := by rw [← hW0]; simp [hn]
  have ka : ∀ j u, #[vc0 a, vc1 a, vc2 a, vc3 a, vc4 a, vc5 a][j]? = some u → W0.cell? ⟨n, j, none⟩ = some u := fun j u hj => by rw [← hW0]; exact (Mv.alloc (fun _ => False) _ _).cell (fun h => h) (cell_at hn hj)
  have kb : ∀ j u, #[vc0 b, vc1 b, vc2 b, vc3 b, vc4 b, vc5 b][j]? = some u → W0.cell? ⟨n + 1, j, none⟩ = some u := fun j u hj => by rw [← hW0]; exact cell_at (by simp [hn]) hj
  have hS : W0.drew.cell? ⟨q, 0, none⟩ = some (.func (.func nb.n) #[] #[]) ∧ (W0.drew.cell? ⟨n, 0, none⟩ = some (vc0 a) ∧ W0.drew.cell? ⟨n, 1, none⟩ = some (vc1 a) ∧ W0.drew.cell? ⟨n, 2, none⟩ = some (vc2 a) ∧ W0.drew.cell? ⟨n, 3, none⟩ = some (vc3 a) ∧ W0.drew.cell? ⟨n, 4, none⟩ = some (vc4 a) ∧ W0.drew.cell? ⟨n, 5, none⟩ = some (vc5 a)) ∧ (W0.drew.cell? ⟨n + 1, 0, none⟩ = some (vc0 b) ∧ W0.drew.cell? ⟨n + 1, 1, none⟩ = some (vc1 b) ∧ W0.drew.cell? ⟨n + 1, 2, none⟩ = some (vc2 b) ∧ W0.drew.cell? ⟨n + 1, 3, none⟩ = some (vc3 b) ∧ W0.drew.cell? ⟨n + 1, 4, none⟩ = some (vc4 b) ∧ W0.drew.cell? ⟨n + 1, 5, none⟩ = some (vc5 b)) := ⟨bcell b0 (cell_lt hq) hq, ⟨ka 0 _ rfl, ka 1 _ rfl, ka 2 _ rfl, ka 3 _ rfl, ka 4 _ rfl, ka 5 _ rfl⟩, ⟨kb 0 _ rfl, kb 1 _ rfl, kb 2 _ rfl, kb 3 _ rfl, kb 4 _ rfl, kb 5 _ rfl⟩⟩
  obtain ⟨r, hr0⟩ : ∃ r, decide (key a < key b) = r := ⟨_, rfl⟩
  have hC : Hid (Calls Tryz.prog nb.n #[ev a, ev b] W0.drew fun e w' => e = .returned (.bool r) ∧ (w'.cell? ⟨q, 0, none⟩ = some (.func (.func nb.n) #[] #[]) ∧ (w'.cell? ⟨n, 0, none⟩ = some (vc0 a) ∧ w'.cell? ⟨n, 1, none⟩ = some (vc1 a) ∧ w'.cell? ⟨n, 2, none⟩ = some (vc2 a) ∧ w'.cell? ⟨n, 3, none⟩ = some (vc3 a) ∧ w'.cell? ⟨n, 4, none⟩ = some (vc4 a) ∧ w'.cell? ⟨n, 5, none⟩ = some (vc5 a)) ∧ (w'.cell? ⟨n + 1, 0, none⟩ = some (vc0 b) ∧ w'.cell? ⟨n + 1, 1, none⟩ = some (vc1 b) ∧ w'.cell? ⟨n + 1, 2, none⟩ = some (vc2 b) ∧ w'.cell? ⟨n + 1, 3, none⟩ = some (vc3 b) ∧ w'.cell? ⟨n + 1, 4, none⟩ = some (vc4 b) ∧ w'.cell? ⟨n + 1, 5, none⟩ = some (vc5 b))) ∧ Below w.heap.size w w') := by
    refine (hB.ca a b W0.drew).mono ?_
    rintro e w' ⟨rfl, hb⟩
    have f : ∀ {k j : Nat} {v : Value}, W0.drew.cell? ⟨k, j, none⟩ = some v → w'.cell? ⟨k, j, none⟩ = some v := fun {k j v} c => bcell hb (cell_lt c) c
    refine ⟨by rw [hr0], ⟨f hS.1, ?_, ?_⟩, (b0.trans ((Below.refl _ _).drew)).trans (hb.mono b0.size)⟩
    · have c := hS.2.1
      exact ⟨f c.1, f c.2.1, f c.2.2.1, f c.2.2.2.1, f c.2.2.2.2.1, f c.2.2.2.2.2⟩
    · have c := hS.2.2
      exact ⟨f c.1, f c.2.1, f c.2.2.1, f c.2.2.2.1, f c.2.2.2.2.1, f c.2.2.2.2.2⟩
  have eg := hB.eg
  have hne : ∀ w, (binOp .neq 51 (.func (.func nb.n) #[] #[]) Value.nilFunc).run Tryz.prog w = .ok (.bool true) w := fun w => by first | kernel_rfl | rfl
  rw [hr0]
  clear hB hr0 b0 s0 ka kb
  go_enter Tryz.func90, Tryz.ntmps90
  go_wp2_with (rw [hW0])
  refine Zs.region (S := fun W => W.cell? ⟨q, 0, none⟩ = some (.func (.func nb.n) #[] #[]) ∧ (W.cell? ⟨n, 0, none⟩ = some (vc0 a) ∧ W.cell? ⟨n, 1, none⟩ = some (vc1 a) ∧ W.cell? ⟨n, 2, none⟩ = some (vc2 a) ∧ W.cell? ⟨n, 3, none⟩ = some (vc3 a) ∧ W.cell? ⟨n, 4, none⟩ = some (vc4 a) ∧ W.cell? ⟨n, 5, none⟩ = some (vc5 a)) ∧ (W.cell? ⟨n + 1, 0, none⟩ = some (vc0 b) ∧ W.cell? ⟨n + 1, 1, none⟩ = some (vc1 b) ∧ W.cell? ⟨n + 1, 2, none⟩ = some (vc2 b) ∧ W.cell? ⟨n + 1, 3, none⟩ = some (vc3 b) ∧ W.cell? ⟨n + 1, 4, none⟩ = some (vc4 b) ∧ W.cell? ⟨n + 1, 5, none⟩ = some (vc5 b))) 14 (by kernel_rfl) ?_
  refine Zs.pure (i := 0) (oi := ⟨some 7, _, _, _, _, _⟩) (v := .pointer (some ⟨q, 0, none⟩)) rfl (by kernel_rfl) (by kernel_rfl) (by kernel_rfl) (by decide) (fun _ _ _ h => h) (Or.inl ⟨by rfl, ?hy0⟩) hS ?_
  case hy0 => (intro w hSw; (try dsimp only at hSw); go_simp; try with_reducible rfl)
  simp only [Act.put, List.setIfInBounds_toArray, List.set_cons_zero, List.set_cons_succ]
  refine Zs.pure (i := 1) (oi := ⟨some 8, _, _, _, _, _⟩) (v := .pointer (some ⟨q, 0, none⟩)) rfl (by kernel_rfl) (by kernel_rfl) (by kernel_rfl) (by decide) (fun _ _ _ h => h) (Or.inl ⟨by rfl, ?hy1⟩) hS ?_
  case hy1 => (intro w hSw; (try dsimp only at hSw); go_simp; try with_reducible rfl)
  simp only [Act.put, List.setIfInBounds_toArray, List.set_cons_zero, List.set_cons_succ]
  refine Zs.pure (i := 2) (oi := ⟨some 9, _, _, _, _, _⟩) (v := .pointer (some ⟨q, 0, none⟩)) rfl (by kernel_rfl) (by kernel_rfl) (by kernel_rfl) (by decide) (fun _ _ _ h => h) (Or.inl ⟨by rfl, ?hy2⟩) hS ?_
  case hy2 => (intro w hSw; (try dsimp only at hSw); go_simp; try with_reducible rfl)
  simp only [Act.put, List.setIfInBounds_toArray, List.set_cons_zero, List.set_cons_succ]
  refine Zs.take (i := 3) (oi := ⟨some 10, _, _, _, _, _⟩) (v := .func (.func nb.n) #[] #[]) rfl (by kernel_rfl) (by kernel_rfl) (by kernel_rfl) (by decide) (by kernel_rfl) (by kernel_rfl) (fun _ _ _ h => h) (Or.inl ⟨by rfl, ?hy3⟩) hS ?_
  case hy3 => (intro w hSw; (try dsimp only at hSw); go_simp; try with_reducible rfl)
  simp only [Act.put, List.setIfInBounds_toArray, List.set_cons_zero, List.set_cons_succ]
  refine Zs.pure (i := 4) (oi := ⟨some 11, _, _, _, _, _⟩) (v := .bool true) rfl (by kernel_rfl) (by kernel_rfl) (by kernel_rfl) (by decide) (fun _ _ _ h => h) (Or.inl ⟨by rfl, ?hy4⟩) hS ?_
  case hy4 => (intro w hSw; (try dsimp only at hSw); go_simp; try with_reducible rfl)
  simp only [Act.put, List.setIfInBounds_toArray, List.set_cons_zero, List.set_cons_succ]
  refine Zs.pure (i := 5) (oi := ⟨some 12, _, _, _, _, _⟩) (v := .bool true) rfl (by kernel_rfl) (by kernel_rfl) (by kernel_rfl) (by decide) (fun _ _ _ h => h) (Or.inl ⟨by rfl, ?hy5⟩) hS ?_
  case hy5 => (intro w hSw; (try dsimp only at hSw); go_simp; try with_reducible rfl)
  simp only [Act.put, List.setIfInBounds_toArray, List.set_cons_zero, List.set_cons_succ]
  refine Zs.pure (i := 6) (oi := ⟨some 13, _, _, _, _, _⟩) (v := .pointer (some ⟨q, 0, none⟩)) rfl (by kernel_rfl) (by kernel_rfl) (by kernel_rfl) (by decide) (fun _ _ _ h => h) (Or.inl ⟨by rfl, ?hy6⟩) hS ?_
  case hy6 => (intro w hSw; (try dsimp only at hSw); go_simp; try with_reducible rfl)
  simp only [Act.put, List.setIfInBounds_toArray, List.set_cons_zero, List.set_cons_succ]
  refine Zs.pure (i := 7) (oi := ⟨some 14, _, _, _, _, _⟩) (v := .pointer (some ⟨q, 0, none⟩)) rfl (by kernel_rfl) (by kernel_rfl) (by kernel_rfl) (by decide) (fun _ _ _ h => h) (Or.inl ⟨by rfl, ?hy7⟩) hS ?_
  case hy7 => (intro w hSw; (try dsimp only at hSw); go_simp; try with_reducible rfl)
  simp only [Act.put, List.setIfInBounds_toArray, List.set_cons_zero, List.set_cons_succ]
  refine Zs.pure (i := 8) (oi := ⟨some 15, _, _, _, _, _⟩) (v := .pointer (some ⟨q, 0, none⟩)) rfl (by kernel_rfl) (by kernel_rfl) (by kernel_rfl) (by decide) (fun _ _ _ h => h) (Or.inl ⟨by rfl, ?hy8⟩) hS ?_
  case hy8 => (intro w hSw; (try dsimp only at hSw); go_simp; try with_reducible rfl)
  simp only [Act.put, List.setIfInBounds_toArray, List.set_cons_zero, List.set_cons_succ]
  refine Zs.take (i := 9) (oi := ⟨some 16, _, _, _, _, _⟩) (v := .func (.func nb.n) #[] #[]) rfl (by kernel_rfl) (by kernel_rfl) (by kernel_rfl) (by decide) (by kernel_rfl) (by kernel_rfl) (fun _ _ _ h => h) (Or.inl ⟨by rfl, ?hy9⟩) hS ?_
  case hy9 => (intro w hSw; (try dsimp only at hSw); go_simp; try with_reducible rfl)
  simp only [Act.put, List.setIfInBounds_toArray, List.set_cons_zero, List.set_cons_succ]
  refine Zs.take (i := 10) (oi := ⟨some 17, _, _, _, _, _⟩) (v := .agg #[vc0 a, vc1 a, vc2 a, vc3 a, vc4 a, vc5 a]) rfl (by kernel_rfl) (by kernel_rfl) (by kernel_rfl) (by decide) (by kernel_rfl) (by kernel_rfl) (fun _ _ _ h => h) (Or.inl ⟨by rfl, ?hy10⟩) hS ?_
  case hy10 => (intro w hSw; (try dsimp only at hSw); go_simp; try with_reducible rfl)
  simp only [Act.put, List.setIfInBounds_toArray, List.set_cons_zero, List.set_cons_succ]
  refine Zs.take (i := 11) (oi := ⟨some 18, _, _, _, _, _⟩) (v := .agg #[vc0 b, vc1 b, vc2 b, vc3 b, vc4 b, vc5 b]) rfl (by kernel_rfl) (by kernel_rfl) (by kernel_rfl) (by decide) (by kernel_rfl) (by kernel_rfl) (fun _ _ _ h => h) (Or.inl ⟨by rfl, ?hy11⟩) hS ?_
  case hy11 => (intro w hSw; (try dsimp only at hSw); go_simp; try with_reducible rfl)
  simp only [Act.put, List.setIfInBounds_toArray, List.set_cons_zero, List.set_cons_succ]
  refine Zs.one (i := 12) (oi := ⟨some 19, _, _, _, _, _⟩) (by kernel_rfl) rfl (fun K hK => ?_)
  go_simp
  refine hC.out.mono ?_
  rintro e V1 ⟨rfl, hS1, hb1⟩
  have hb1H := hidP hb1
  clear hb1 hC
  go_wp2_with fail
  refine hK.out _ _ (fun _ => hS1) ?_
  clear hK K
  try simp only [Act.put, List.setIfInBounds_toArray, List.set_cons_zero, List.set_cons_succ]
  refine Zs.pure (i := 13) (oi := ⟨some 20, _, _, _, _, _⟩) (v := .bool r) rfl (by kernel_rfl) (by kernel_rfl) (by kernel_rfl) (by decide) (fun _ _ _ h => h) (Or.inl ⟨by rfl, ?hy13⟩) hS1 ?_
  case hy13 => (intro w hSw; (try dsimp only at hSw); go_simp; try with_reducible rfl)
  simp only [Act.put, List.setIfInBounds_toArray, List.set_cons_zero, List.set_cons_succ]
  refine Zs.one (i := 14) (oi := ⟨some 6, _, _, _, _, _⟩) (by kernel_rfl) rfl (fun K hK => ?_)
  go_simp
  refine hK.out _ _ (fun q => absurd q (by decide)) ?_
  clear hK K
  try simp only [Act.put, List.setIfInBounds_toArray, List.set_cons_zero, List.set_cons_succ]
  refine Zs.done (by kernel_rfl) ?_ _
  go_wp2_with fail
  go_ret
  exact ⟨rfl, hb1H.out⟩
end Go.Proofs.YtdcidlgmnnaahaaGreat.Qw
/- cmp at int, int64 and string; the two orders of a loop. -/
namespace Go.Proofs.YtdcidlgmnnaahaaGreat
open Go.RowKit Go.Shelf Go.Lib
attribute [local go_sem] Oper.semAt_some
/-- What Compare tells. -/
def sg (a b : Int) : Int := if a < b then -1 else if b < a then 1 else 0
def sgS (a b : ByteArray) : Int := if Op.bytesLess a.toList b.toList = true then -1 else if (a.toList == b.toList) = true then 0 else 1
/-- The first that isn't 0. -/
def fz : List Int → Int
  | [] => 0
  | x :: l => if x = 0 then fz l else x
set_option maxRecDepth 100000 in
set_option maxHeartbeats 1000000 in
theorem nanI (x : Int) (w : World) : Calls Tryz.prog 58 #[.int .i64 x] w fun e w' => e = .returned (.bool false) ∧ w' = w := by
  go_enter Tryz.func58, Tryz.ntmps58
  go_wp2_with fail
  go_ret
  exact ⟨rfl, rfl⟩
set_option maxRecDepth 100000 in
set_option maxHeartbeats 1000000 in
theorem nanL (x : Int) (w : World) : Calls Tryz.prog 82 #[.int .i64 x] w fun e w' => e = .returned (.bool false) ∧ w' = w := by
  go_enter Tryz.func82, Tryz.ntmps82
  go_wp2_with fail
  go_ret
  exact ⟨rfl, rfl⟩
set_option maxRecDepth 100000 in
set_option maxHeartbeats 1000000 in
theorem nanS (x : ByteArray) (w : World) : Calls Tryz.prog 83 #[.string x] w fun e w' => e = .returned (.bool false) ∧ w' = w := by
  go_enter Tryz.func83, Tryz.ntmps83
  go_wp2_with fail
  go_ret
  exact ⟨rfl, rfl⟩
set_option maxRecDepth 100000 in
set_option maxHeartbeats 2000000 in
theorem cmpI (a b : Int) (w : World) : Calls Tryz.prog 44 #[.int .i64 a, .int .i64 b] w fun e w' => e = .returned (.int .i64 (sg a b)) ∧ w' = w := by
  have h1 := nanI a w
  have h2 := nanI b w
  have fin : Hid (∀ r, sg a b = r → Ending.returned (.int .i64 r) = .returned (.int .i64 (sg a b))) := fun r e => by rw [e]
  by_cases l1 : a < b
  · have e : Hid (sg a b = -1) := by show _ = _; unfold sg; rw [if_pos l1]
    go_enter Tryz.func44, Tryz.ntmps44
    go_wp2_with fail
    refine h1.mono ?_
    rintro e1 w1 ⟨rfl, rfl⟩
    go_wp2_with fail
    refine h2.mono ?_
    rintro e1 w1 ⟨rfl, rfl⟩
    go_wp2_with fail
    go_ret
    exact ⟨fin.out _ e.out, rfl⟩
  · by_cases l2 : b < a
    · have e : Hid (sg a b = 1) := by show _ = _; unfold sg; rw [if_neg l1, if_pos l2]
      have l3 : decide (a < b) = false := decide_eq_false l1
      have l4 : ¬ a < b := l1
      go_enter Tryz.func44, Tryz.ntmps44
      go_wp2_with fail
      refine h1.mono ?_
      rintro e1 w1 ⟨rfl, rfl⟩
      go_wp2_with fail
      refine h2.mono ?_
      rintro e1 w1 ⟨rfl, rfl⟩
      go_wp2_with fail
      go_ret
      exact ⟨fin.out _ e.out, rfl⟩
    · have e : Hid (sg a b = 0) := by show _ = _; unfold sg; rw [if_neg l1, if_neg l2]
      obtain rfl : a = b := by omega
      go_enter Tryz.func44, Tryz.ntmps44
      go_wp2_with fail
      refine h1.mono ?_
      rintro e1 w1 ⟨rfl, rfl⟩
      go_wp2_with fail
      refine h2.mono ?_
      rintro e1 w1 ⟨rfl, rfl⟩
      go_wp2_with fail
      go_ret
      exact ⟨fin.out _ e.out, rfl⟩
set_option maxRecDepth 100000 in
set_option maxHeartbeats 2000000 in
theorem cmpL (a b : Int) (w : World) : Calls Tryz.prog 65 #[.int .i64 a, .int .i64 b] w fun e w' => e = .returned (.int .i64 (sg a b)) ∧ w' = w := by
  have h1 := nanL a w
  have h2 := nanL b w
  have fin : Hid (∀ r, sg a b = r → Ending.returned (.int .i64 r) = .returned (.int .i64 (sg a b))) := fun r e => by rw [e]
  by_cases l1 : a < b
  · have e : Hid (sg a b = -1) := by show _ = _; unfold sg; rw [if_pos l1]
    go_enter Tryz.func65, Tryz.ntmps65
    go_wp2_with fail
    refine h1.mono ?_
    rintro e1 w1 ⟨rfl, rfl⟩
    go_wp2_with fail
    refine h2.mono ?_
    rintro e1 w1 ⟨rfl, rfl⟩
    go_wp2_with fail
    go_ret
    exact ⟨fin.out _ e.out, rfl⟩
  · by_cases l2 : b < a
    · have e : Hid (sg a b = 1) := by show _ = _; unfold sg; rw [if_neg l1, if_pos l2]
      have l3 : decide (a < b) = false := decide_eq_false l1
      have l4 : ¬ a < b := l1
      go_enter Tryz.func65, Tryz.ntmps65
      go_wp2_with fail
      refine h1.mono ?_
      rintro e1 w1 ⟨rfl, rfl⟩
      go_wp2_with fail
      refine h2.mono ?_
      rintro e1 w1 ⟨rfl, rfl⟩
      go_wp2_with fail
      go_ret
      exact ⟨fin.out _ e.out, rfl⟩
    · have e : Hid (sg a b = 0) := by show _ = _; unfold sg; rw [if_neg l1, if_neg l2]
      obtain rfl : a = b := by omega
      go_enter Tryz.func65, Tryz.ntmps65
      go_wp2_with fail
      refine h1.mono ?_
      rintro e1 w1 ⟨rfl, rfl⟩
      go_wp2_with fail
      refine h2.mono ?_
      rintro e1 w1 ⟨rfl, rfl⟩
      go_wp2_with fail
      go_ret
      exact ⟨fin.out _ e.out, rfl⟩
set_option maxRecDepth 100000 in
set_option maxHeartbeats 2000000 in
theorem cmpS (a b : ByteArray) (w : World) : Calls Tryz.prog 66 #[.string a, .string b] w fun e w' => e = .returned (.int .i64 (sgS a b)) ∧ w' = w := by
  have h1 := nanS a w
  have h2 := nanS b w
  have fin : Hid (∀ r, sgS a b = r → Ending.returned (.int .i64 r) = .returned (.int .i64 (sgS a b))) := fun r e => by rw [e]
  cases l1 : Op.bytesLess a.toList b.toList with
  | true =>
    have e : Hid (sgS a b = -1) := by show _ = _; unfold sgS; rw [if_pos l1]
    go_enter Tryz.func66, Tryz.ntmps66
    go_wp2_with fail
    refine h1.mono ?_
    rintro e1 w1 ⟨rfl, rfl⟩
    go_wp2_with fail
    refine h2.mono ?_
    rintro e1 w1 ⟨rfl, rfl⟩
    go_wp2_with fail
    go_ret
    exact ⟨fin.out _ e.out, rfl⟩
  | false =>
    cases l2 : a.toList == b.toList with
    | false =>
      have e : Hid (sgS a b = 1) := by show _ = _; unfold sgS; rw [l1, l2, if_neg (by decide), if_neg (by decide)]
      go_enter Tryz.func66, Tryz.ntmps66
      go_wp2_with fail
      refine h1.mono ?_
      rintro e1 w1 ⟨rfl, rfl⟩
      go_wp2_with fail
      refine h2.mono ?_
      rintro e1 w1 ⟨rfl, rfl⟩
      go_wp2_with fail
      go_ret
      exact ⟨fin.out _ e.out, rfl⟩
    | true =>
      have e : Hid (sgS a b = 0) := by show _ = _; unfold sgS; rw [l1, if_neg (by decide), if_pos l2]
      go_enter Tryz.func66, Tryz.ntmps66
      go_wp2_with fail
      refine h1.mono ?_
      rintro e1 w1 ⟨rfl, rfl⟩
      go_wp2_with fail
      refine h2.mono ?_
      rintro e1 w1 ⟨rfl, rfl⟩
      go_wp2_with fail
      go_ret
      exact ⟨fin.out _ e.out, rfl⟩
theorem fz_drop {xs : List Int} {k : Nat} {x : Int} (h : xs[k]? = some x) : fz (xs.drop k) = if x = 0 then fz (xs.drop (k + 1)) else x := by
  obtain ⟨hk, e⟩ := List.getElem?_eq_some_iff.1 h
  rw [List.drop_eq_getElem_cons hk, e]; rfl
set_option maxRecDepth 100000 in
set_option maxHeartbeats 2000000 in
theorem or_any (xs : List Int) (g c : Nat) (w : World) (hx : ∀ j x, xs[j]? = some x → w.cell? ⟨g, j, none⟩ = some (.int .i64 x)) (hl : xs.length ≤ 1000) :
    Calls Tryz.prog 43 #[.slice (some ⟨g, 0, none⟩) xs.length c] w fun e w' => e = .returned (.int .i64 (fz xs)) ∧ w' = w := by
  obtain ⟨n, hn⟩ : ∃ n, xs.length = n := ⟨_, rfl⟩
  have hnI : (n : Int) ≤ 1000 := by omega
  rw [hn]
  have hnH := hidP hn
  have fin : Hid (∀ r, fz xs = r → Ending.returned (.int .i64 r) = .returned (.int .i64 (fz xs))) := fun r e => by rw [e]
  clear hn hl
  go_enter Tryz.func43, Tryz.ntmps43
  go_wp2_with fail
  go_loop [8] (fun i => ∃ k : Nat, k ≤ n ∧ i = .int .i64 k ∧ Hid (fz (xs.drop k) = fz xs)) (fun i => n - (intOf i).toNat)
  case atStart => exact ⟨0, Nat.zero_le _, rfl, by show fz (xs.drop 0) = _; rw [List.drop_zero]⟩
  case round =>
    obtain ⟨k, hk, rfl, hf⟩ := hrel
    by_cases hlt : k < n
    · obtain ⟨x, hxk⟩ : ∃ x, xs[k]? = some x := ⟨_, List.getElem?_eq_getElem (by have := hnH.out; omega)⟩
      have hc := hx k x hxk
      have hd := hidP (fz_drop hxk)
      clear hxk
      by_cases h0 : x = 0
      · subst h0
        go_wp2_with fail
        go_round
        case rel => exact ⟨k + 1, by omega, by go_num, by show _ = _; rw [← hf.out, hd.out, if_pos rfl]⟩
        case measure => simp [intOf]; omega
      · go_wp2_with fail
        go_ret
        exact ⟨fin.out _ (by rw [← hf.out, hd.out, if_neg h0]), rfl⟩
    · go_wp2_with fail
      go_ret
      exact ⟨fin.out _ (by rw [← hf.out, List.drop_eq_nil_of_le (by have := hnH.out; omega)]; rfl), rfl⟩
/-- Which is ahead: by the first two that differ. -/
theorem sg_neg (a b : Int) : (sg a b < 0 ↔ a < b) ∧ (sg a b = 0 ↔ a = b) := by
  unfold sg
  split
  · exact ⟨⟨fun _ => ‹_›, fun _ => (by decide)⟩, ⟨fun h => (by cases h), fun h => (by omega)⟩⟩
  · split
    · exact ⟨⟨fun h => (by cases h), fun h => (by omega)⟩, ⟨fun h => (by cases h), fun h => (by omega)⟩⟩
    · exact ⟨⟨fun h => (by cases h), fun h => (by omega)⟩, ⟨fun _ => (by omega), fun _ => rfl⟩⟩
theorem sgS_neg {a b : ByteArray} (ha : a.toList.length ≤ 300) (hb : b.toList.length ≤ 300) : (sgS a b < 0 ↔ Op.bytesLess a.toList b.toList = true) ∧ (sgS a b = 0 ↔ a = b) := by
  have e1 := encU_less ha hb
  unfold sgS
  split
  · next h =>
    refine ⟨⟨fun _ => h, fun _ => (by decide)⟩, ⟨fun z => (by cases z), fun z => ?_⟩⟩
    have := e1.1.2 h
    have := e1.2.2 z
    omega
  · next h =>
    split
    · next h' => exact ⟨⟨fun z => (by cases z), fun z => absurd z h⟩, ⟨fun _ => ba_ext (by simpa using h'), fun _ => rfl⟩⟩
    · next h' => exact ⟨⟨fun z => (by cases z), fun z => absurd z h⟩, ⟨fun z => (by cases z), fun z => absurd (by rw [z]; simp) h'⟩⟩
theorem ahead_W (a b : Wt) : decide (fz [sg a.k b.k, sg a.n b.n] < 0) = decide (keyW a < keyW b) := by
  have h1 := sg_neg a.k b.k
  have h2 := sg_neg a.n b.n
  have h := keyW_less a b
  rw [Bool.eq_iff_iff, decide_eq_true_iff, decide_eq_true_iff, h]
  simp only [fz]
  split
  · next e =>
    have ek := h1.2.1 e
    split
    · next e2 =>
      have := h2.2.1 e2
      exact ⟨fun z => by omega, fun z => by omega⟩
    · rw [h2.1]
      exact ⟨fun z => .inr ⟨ek, z⟩, fun z => by omega⟩
  · next e =>
    have ne : ¬ a.k = b.k := fun z => e (h1.2.2 z)
    rw [h1.1]
    exact ⟨.inl, fun z => by omega⟩
theorem ahead_D (a b : Du) : decide (fz [sg a.t b.t, sgS a.u b.u, sgS a.w b.w] < 0) = decide (keyD a < keyD b) := by
  have h1 := sg_neg a.t b.t
  have h2 := sgS_neg a.hu b.hu
  have h3 := sgS_neg a.hw b.hw
  have h := keyD_less a b
  rw [Bool.eq_iff_iff, decide_eq_true_iff, decide_eq_true_iff, h]
  simp only [fz]
  split
  · next e =>
    have et := h1.2.1 e
    have nt : ¬ a.t < b.t := by omega
    split
    · next e2 =>
      have eu := h2.2.1 e2
      have nu : ¬ Op.bytesLess a.u.toList b.u.toList = true := fun z => by have := h2.1.2 z; omega
      split
      · next e3 =>
        have nw : ¬ Op.bytesLess a.w.toList b.w.toList = true := fun z => by have := h3.1.2 z; omega
        refine ⟨fun z => absurd z (by decide), fun z => ?_⟩
        rcases z with z | ⟨_, z | ⟨_, z⟩⟩
        · exact absurd z nt
        · exact absurd z nu
        · exact absurd z nw
      · rw [h3.1]
        refine ⟨fun z => .inr ⟨et, .inr ⟨eu, z⟩⟩, fun z => ?_⟩
        rcases z with z | ⟨_, z | ⟨_, z⟩⟩
        · exact absurd z nt
        · exact absurd z nu
        · exact z
    · next e2 =>
      have nu : ¬ a.u = b.u := fun z => e2 (h2.2.2 z)
      rw [h2.1]
      refine ⟨fun z => .inr ⟨et, .inl z⟩, fun z => ?_⟩
      rcases z with z | ⟨_, z | ⟨z, _⟩⟩
      · exact absurd z nt
      · exact z
      · exact absurd z nu
  · next e =>
    have ne : ¬ a.t = b.t := fun z => e (h1.2.2 z)
    rw [h1.1]
    refine ⟨.inl, fun z => ?_⟩
    rcases z with z | ⟨z, _⟩
    · exact z
    · exact absurd z ne
end Go.Proofs.YtdcidlgmnnaahaaGreat
