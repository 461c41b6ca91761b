/- Trees of a queue in memory: rows of records, lists of trees; append. -/
import Derived.Test.YteimalemecgomaaGreatBb
namespace Go.Proofs.YteimalemecgomaaGreat.Qi
open Go.RowKit Go.Shelf Go.Lib
abbrev El := Int
abbrev ev (x : El) : Value := .int .i64 x
abbrev ptrV (p : Option Nat) : Value := .pointer (p.map fun b => ⟨b, 0, none⟩)
/-- A tree as it lies: its value, its turn, the block of the list behind it. -/
structure Rec where
  v : El
  t : Int
  p : Option Nat
def Rec.val (x : Rec) : Value := .agg #[ev x.v, .int .i64 x.t, ptrV x.p]
def flat : List Rec → List Value
  | [] => []
  | x :: r => ev x.v :: .int .i64 x.t :: ptrV x.p :: flat r
theorem flat_len : ∀ xs, (flat xs).length = xs.length * 3
  | [] => rfl
  | x :: r => by simp [flat, flat_len r]; omega
theorem flat_app : ∀ xs ys, flat (xs ++ ys) = flat xs ++ flat ys
  | [], _ => rfl
  | x :: r, ys => by simp [flat, flat_app r ys]
theorem flat_one : ∀ xs, ∀ u ∈ flat xs, u.oneCell' = true
  | [], u, h => by cases h
  | x :: r, u, h => by
    simp only [flat, List.mem_cons] at h
    rcases h with rfl | rfl | rfl | h
    · rfl
    · rfl
    · rfl
    · exact flat_one r u h
theorem flat_at : ∀ (xs : List Rec) (j : Nat) (x : Rec), xs[j]? = some x → (flat xs)[j * 3]? = some (ev x.v) ∧ (flat xs)[j * 3 + 1]? = some (.int .i64 x.t) ∧ (flat xs)[j * 3 + 2]? = some (ptrV x.p)
  | [], j, x, h => by cases h
  | y :: r, 0, x, h => by simp at h; subst h; exact ⟨rfl, rfl, rfl⟩
  | y :: r, j + 1, x, h => by
    have := flat_at r j x (by simpa using h)
    rw [show (j + 1) * 3 = j * 3 + 3 by omega, show j * 3 + 3 + 1 = j * 3 + 1 + 3 by omega, show j * 3 + 3 + 2 = j * 3 + 2 + 3 by omega]
    exact this
theorem infoT : ∃ i, Tryz.prog.info? 76 = some i ∧ i.zero = some (.agg #[.int .i64 0, .int .i64 0, .pointer none]) ∧ i.size = 3 ∧ i.bytes = 24 := by
  have h : (Tryz.prog.info? 76).map (fun i => (i.zero, i.size, i.bytes)) = some (some (.agg #[.int .i64 0, .int .i64 0, .pointer none]), 3, 24) := by kernel_rfl
  cases e : Tryz.prog.info? 76 with
  | none => rw [e] at h; cases h
  | some i => rw [e] at h; simp at h; exact ⟨i, rfl, h⟩

/-- The records xs lie in block g from o on. -/
def RA (w : World) (g o : Nat) (xs : List Rec) : Prop := ∀ j u, (flat xs)[j]? = some u → w.cell? ⟨g, o + j, none⟩ = some u
/-- There is room for cap records. -/
structure Rm (w : World) (g o cap : Nat) : Prop where
  lt : g < w.heap.size
  mx : cap ≤ maxLen
  so : ∀ j, j < cap * 3 → (w.cell? ⟨g, o + j, none⟩).isSome = true
  fz : ∀ j, j < cap * 3 → w.frozen? ⟨g, o + j, none⟩ = false
theorem RA.nil (w : World) (g o : Nat) : RA w g o [] := fun j u h => by cases h
theorem RA.cv {S : Nat → Nat → Prop} {w w' : World} {g o : Nat} {xs : List Rec} (h : RA w g o xs) (m : Cv S w w') (hn : ∀ j, o ≤ j → j < o + xs.length * 3 → ¬ S g j) : RA w' g o xs := fun j u hj => by
  have hl : j < xs.length * 3 := by rw [← flat_len]; exact (List.getElem?_eq_some_iff.1 hj).1
  exact m.cell (hn _ (by omega) (by omega)) (h j u hj)
theorem Rm.cv {S : Nat → Nat → Prop} {w w' : World} {g o cap : Nat} (h : Rm w g o cap) (m : Cv S w w') : Rm w' g o cap :=
  ⟨Nat.lt_of_lt_of_le h.lt m.size, h.mx, fun j hj => m.pr _ _ h.lt (h.so j hj), fun j hj => (m.fr _ _ h.lt).trans (h.fz j hj)⟩
theorem Rm.sub {w : World} {g o cap : Nat} (h : Rm w g o cap) {a c : Nat} (hc : a + c ≤ cap) : Rm w g (o + a * 3) c :=
  ⟨h.lt, Nat.le_trans (by omega) h.mx, fun j hj => by rw [Nat.add_assoc]; exact h.so _ (by omega), fun j hj => by rw [Nat.add_assoc]; exact h.fz _ (by omega)⟩
theorem RA.app {w : World} {g o : Nat} {xs ys : List Rec} : RA w g o (xs ++ ys) ↔ RA w g o xs ∧ RA w g (o + xs.length * 3) ys := by
  unfold RA
  rw [flat_app]
  constructor
  · intro h
    refine ⟨fun j u hj => h j u (by rw [List.getElem?_append_left (List.getElem?_eq_some_iff.1 hj).1]; exact hj), fun j u hj => ?_⟩
    rw [Nat.add_assoc]
    exact h _ u (by rw [List.getElem?_append_right (by rw [flat_len]; omega), flat_len, show xs.length * 3 + j - xs.length * 3 = j by omega]; exact hj)
  · rintro ⟨h1, h2⟩ j u hj
    rcases Nat.lt_or_ge j (xs.length * 3) with hl | hl
    · exact h1 j u (by rw [List.getElem?_append_left (by rw [flat_len]; exact hl)] at hj; exact hj)
    · rw [List.getElem?_append_right (by rw [flat_len]; exact hl), flat_len] at hj
      have := h2 _ u hj
      rw [Nat.add_assoc, show xs.length * 3 + (j - xs.length * 3) = j by omega] at this
      exact this
theorem RA.at {w : World} {g o : Nat} {xs : List Rec} (h : RA w g o xs) {j : Nat} {x : Rec} (hx : xs[j]? = some x) :
    w.cell? ⟨g, o + j * 3, none⟩ = some (ev x.v) ∧ w.cell? ⟨g, o + j * 3 + 1, none⟩ = some (.int .i64 x.t) ∧ w.cell? ⟨g, o + j * 3 + 2, none⟩ = some (ptrV x.p) := by
  obtain ⟨h1, h2, h3⟩ := flat_at xs j x hx
  exact ⟨h _ _ h1, h _ _ h2, h _ _ h3⟩
/-- A slice of records. -/
structure RS (w : World) (g o cap : Nat) (xs : List Rec) : Prop where
  le : xs.length ≤ cap
  rm : Rm w g o cap
  ra : RA w g o xs
abbrev slv (g o n cap : Nat) : Value := .slice (some ⟨g, o, none⟩) n cap
theorem RS.cv {S : Nat → Nat → Prop} {w w' : World} {g o cap : Nat} {xs : List Rec} (h : RS w g o cap xs) (m : Cv S w w') (hn : ∀ j, o ≤ j → j < o + xs.length * 3 → ¬ S g j) : RS w' g o cap xs := ⟨h.le, h.rm.cv m, h.ra.cv m hn⟩
theorem RS.own {w : World} {v : Value} {base : Nat} {e : TypeId} {xs : List Rec} (h : w.ownsRow base e 3 v xs.length (flat xs)) (h0 : xs ≠ []) : ∃ g cap, v = slv g 0 xs.length cap ∧ base ≤ g ∧ RS w g 0 cap xs := by
  rcases h.2 with ⟨rfl, h1⟩ | ⟨g, cap, cur, rfl, hb, hg, h1, h2, h3, h4⟩
  · exact absurd (List.eq_nil_of_length_eq_zero h1) h0
  · refine ⟨g, cap, rfl, hb, h1, ⟨(Array.getElem?_eq_some_iff.1 hg).1, h2, fun j hj => ?_, fun j hj => ?_⟩, fun j x hx => ?_⟩
    · unfold World.cell?
      rw [hg]
      have : j < cur.size := by rw [h3]; omega
      simp [this]
    · unfold World.frozen?
      rw [hg]
      simp
    · have := h.cells (g := g) rfl j x hx
      rw [Addr.add_lit] at this
      exact this
theorem app_room {w : World} {g o cap : Nat} {xs ys : List Rec} (h : RS w g o cap xs) {g2 o2 c2 : Nat} (hy : RA w g2 o2 ys) (hr : xs.length + ys.length ≤ cap) (ty : TypeId) :
    ∃ w', (Builtin.append_ #[70, 70] ty #[slv g o xs.length cap, slv g2 o2 ys.length c2]).run Tryz.prog w = .ok (slv g o (xs.length + ys.length) cap) w' ∧ RS w' g o cap (xs ++ ys) ∧ Cv (fun k j => k = g ∧ o + xs.length * 3 ≤ j ∧ j < o + (xs.length + ys.length) * 3) w w' := by
  obtain ⟨i0, hi, hz0, hz1, hz2⟩ := infoT
  have hrun := run_append_room_cells (P := Tryz.prog) w 70 ty 76 _ Tryz.underlying70 hi g o xs.length cap ⟨g2, o2, none⟩ ys.length c2 (flat ys) (by rw [hz1, flat_len]) (fun j u hj => by rw [Addr.add_lit]; exact hy j u hj) (flat_one ys) hr (fun j hj => by rw [flat_len] at hj; rw [hz1, Nat.add_assoc]; exact h.rm.so _ (by omega)) (fun j hj => by rw [flat_len] at hj; rw [hz1, Nat.add_assoc]; exact h.rm.fz _ (by omega))
  rw [hz1] at hrun
  have hth : ∀ j, j < (flat ys).length → (w.cell? ⟨g, o + xs.length * 3 + j, none⟩).isSome = true := fun j hj => by rw [flat_len] at hj; rw [Nat.add_assoc]; exact h.rm.so _ (by omega)
  have m := Cv.cells w g (o + xs.length * 3) (flat ys)
  rw [flat_len] at m
  have m2 : Cv (fun k j => k = g ∧ o + xs.length * 3 ≤ j ∧ j < o + (xs.length + ys.length) * 3) w (w.setCells g (o + xs.length * 3) (flat ys)) := m.mono fun k j _ h => ⟨h.1, h.2.1, by have := h.2.2; omega⟩
  refine ⟨_, hrun, ⟨by rw [List.length_append]; exact hr, h.rm.cv m2, RA.app.2 ⟨h.ra.cv m2 (fun j _ hj q => by have := q.2.1; omega), fun j u hj => ?_⟩⟩, m2⟩
  obtain ⟨hlt, hge⟩ := List.getElem?_eq_some_iff.1 hj
  rw [World.cell?_setCells_in g _ _ w hth j hlt, hge]
theorem app_grow {w : World} {g o cap : Nat} {xs ys : List Rec} (h : RS w g o cap xs) {g2 o2 c2 : Nat} (hy : RA w g2 o2 ys) (hr : cap < xs.length + ys.length) (hx : xs.length ≤ 1000000) (hyl : ys.length ≤ 1000000) (ty : TypeId) :
    ∃ g' c' w', (Builtin.append_ #[70, 70] ty #[slv g o xs.length cap, slv g2 o2 ys.length c2]).run Tryz.prog w = .ok (slv g' 0 (xs.length + ys.length) c') w' ∧ w.heap.size ≤ g' ∧ RS w' g' 0 c' (xs ++ ys) ∧ Below w.heap.size w w' := by
  obtain ⟨i0, hi, hz0, hz1, hz2⟩ := infoT
  obtain ⟨v', w', hrun, ho, hgr⟩ := run_append_arg_grows (P := Tryz.prog) w 70 ty 76 _ _ 3 24 Tryz.underlying70 hi hz0 hz1 hz2 rfl (by decide) ⟨g, o, none⟩ xs.length cap (flat xs) (flat_len xs) (fun j u hj => by rw [Addr.add_lit]; exact h.ra j u hj) ⟨g2, o2, none⟩ ys.length c2 (flat ys) (flat_len ys) (fun j u hj => by rw [Addr.add_lit]; exact hy j u hj) hr (by unfold maxLen; omega) (by omega)
  rw [← flat_app, ← List.length_append] at ho
  obtain ⟨g', c', rfl, hb, hs⟩ := RS.own ho (by intro e; have := congrArg List.length e; rw [List.length_append, List.length_nil] at this; omega)
  rw [List.length_append] at hrun
  exact ⟨g', c', w', hrun, hb, hs, ((Mv.refl (fun _ => False) w).grown hgr (fun k e => by cases e)).toBelow (Nat.le_refl _) (fun _ _ h => h)⟩
theorem app_nil {w : World} {ys : List Rec} {g2 o2 c2 : Nat} (hy : RA w g2 o2 ys) (hy0 : ys ≠ []) (hyl : ys.length ≤ 1000000) (ty : TypeId) :
    ∃ g' c' w', (Builtin.append_ #[70, 70] ty #[.slice none 0 0, slv g2 o2 ys.length c2]).run Tryz.prog w = .ok (slv g' 0 ys.length c') w' ∧ w.heap.size ≤ g' ∧ RS w' g' 0 c' ys ∧ Below w.heap.size w w' := by
  obtain ⟨i0, hi, hz0, hz1, hz2⟩ := infoT
  obtain ⟨v', w', hrun, ho, hgr, _, hat⟩ := run_append_own_at (P := Tryz.prog) w w.heap.size 70 ty 76 _ _ 3 24 Tryz.underlying70 hi hz0 hz1 hz2 rfl (by decide) (.slice none 0 0) 0 [] (World.ownsRow_nil w _ _ _) ⟨g2, o2, none⟩ ys.length c2 (flat ys) (flat_len ys) (fun j u hj => by rw [Addr.add_lit]; exact hy j u hj) (flat_one ys) (by unfold maxLen; omega) (by omega) (Nat.le_refl _)
  rw [Nat.zero_add, List.nil_append] at ho
  obtain ⟨g', c', rfl, hb, hs⟩ := RS.own ho hy0
  exact ⟨g', c', w', hrun, hb, hs, ((Mv.refl (fun _ => False) w).grown hgr (fun k e => by cases e)).toBelow (Nat.le_refl _) (fun _ _ h => h)⟩
theorem app_none {w : World} {g o cap : Nat} {xs : List Rec} (h : RS w g o cap xs) (p : Option Addr) (c2 : Nat) (ty : TypeId) :
    (Builtin.append_ #[70, 70] ty #[slv g o xs.length cap, .slice p 0 c2]).run Tryz.prog w = .ok (slv g o xs.length cap) w := by
  obtain ⟨i0, hi, hz0, hz1, hz2⟩ := infoT
  have hle := h.le
  cases p <;> simp [Builtin.append_, run_underlying Tryz.underlying70, sizeOf, typeInfo, hi, Builtin.lenOf, Builtin.firstCells, loadCells, loadCellsFrom, storeCells, hle]
/-- clear of n records. -/
theorem run_clearR (w : World) (ty : TypeId) {g o n c : Nat} (h : Rm w g o (n + 1)) :
    ∃ vs : List Value, vs.length = (n + 1) * 3 ∧ (Builtin.clear_ #[70] ty #[slv g o (n + 1) c]).run Tryz.prog w = .ok (.tuple #[]) (w.setCells g o vs) := by
  have hz : ∀ w, (zeroValue 76).run Tryz.prog w = .ok (.agg #[.int .i64 0, .int .i64 0, .pointer none]) w := fun w => by kernel_rfl
  obtain ⟨vs, hvs⟩ : ∃ vs, (Builtin.zeroCells (Value.agg #[.int .i64 0, .int .i64 0, .pointer none]).cells (n + 1)).toList = vs := ⟨_, rfl⟩
  have hl : vs.length = (n + 1) * 3 := by rw [← hvs, Array.length_toList, size_zeroCells]; rfl
  have h1 : ∀ u ∈ vs, u.oneCell' = true := by
    intro u hu
    rw [← hvs, Array.mem_toList_iff] at hu
    unfold Builtin.zeroCells at hu
    obtain ⟨i, _, rfl⟩ := Array.mem_map.1 hu
    have e : (Value.agg #[.int .i64 0, .int .i64 0, .pointer none]).cells = #[.int .i64 0, .int .i64 0, .pointer none] := rfl
    rw [e]
    have : i % 3 = 0 ∨ i % 3 = 1 ∨ i % 3 = 2 := by omega
    show (#[.int .i64 0, Value.int .i64 0, Value.pointer none][i % 3]!).oneCell' = true
    rcases this with q | q | q <;> rw [q] <;> rfl
  have hst := run_storeCells_cells (P := Tryz.prog) g o vs 0 w (by rw [hl]; simpa using h.so) (by rw [hl]; simpa using h.fz) h1
  simp only [Nat.add_zero] at hst
  refine ⟨vs, hl, ?_⟩
  simp [Builtin.clear_, run_underlying Tryz.underlying70, hz, hvs, hst]
/-- The list at p holds the trees f; its blocks are of B. -/
def LR (w : World) (B : Nat → Prop) : Fo El → Option Nat → Prop
  | .nil, p => p = none
  | .cons v t k r, p => ∃ b pk pr, p = some b ∧ B b ∧ w.cell? ⟨b, 0, none⟩ = some (ev v) ∧ w.cell? ⟨b, 1, none⟩ = some (.int .i64 t) ∧ w.cell? ⟨b, 2, none⟩ = some (ptrV pk) ∧ w.cell? ⟨b, 3, none⟩ = some (ptrV pr) ∧ LR w B k pk ∧ LR w B r pr
theorem LR.cv {S : Nat → Nat → Prop} {w w' : World} {B B' : Nat → Prop} (m : Cv S w w') (hB : ∀ k, B k → B' k) (hS : ∀ k, B k → ∀ j, ¬ S k j) : ∀ (f : Fo El) (p : Option Nat), LR w B f p → LR w' B' f p
  | .nil, _, h => h
  | .cons v t k r, p, h => by
    obtain ⟨b, pk, pr, rfl, hb, c0, c1, c2, c3, hk, hr⟩ := h
    exact ⟨b, pk, pr, rfl, hB b hb, m.cell (hS b hb 0) c0, m.cell (hS b hb 1) c1, m.cell (hS b hb 2) c2, m.cell (hS b hb 3) c3, LR.cv m hB hS k pk hk, LR.cv m hB hS r pr hr⟩
/-- Records and the trees that they are. -/
def RF (w : World) (B : Nat → Prop) : List Rec → List (Tr El) → Prop
  | [], [] => True
  | x :: xs, y :: ys => (x.v = y.v ∧ x.t = y.t ∧ LR w B y.k x.p) ∧ RF w B xs ys
  | _, _ => False
theorem RF.cv {S : Nat → Nat → Prop} {w w' : World} {B B' : Nat → Prop} (m : Cv S w w') (hB : ∀ k, B k → B' k) (hS : ∀ k, B k → ∀ j, ¬ S k j) : ∀ (xs : List Rec) (ys : List (Tr El)), RF w B xs ys → RF w' B' xs ys
  | [], [], _ => trivial
  | _ :: xs, _ :: ys, h => ⟨⟨h.1.1, h.1.2.1, LR.cv m hB hS _ _ h.1.2.2⟩, RF.cv m hB hS xs ys h.2⟩
  | [], _ :: _, h => h.elim
  | _ :: _, [], h => h.elim
theorem RF.len {w : World} {B : Nat → Prop} : ∀ {xs : List Rec} {ys : List (Tr El)}, RF w B xs ys → xs.length = ys.length
  | [], [], _ => rfl
  | _ :: _, _ :: _, h => by simp only [List.length_cons, RF.len h.2]
  | [], _ :: _, h => h.elim
  | _ :: _, [], h => h.elim
theorem RF.app {w : World} {B : Nat → Prop} : ∀ {xs : List Rec} {ys : List (Tr El)} {xs2 : List Rec} {ys2 : List (Tr El)}, RF w B xs ys → RF w B xs2 ys2 → RF w B (xs ++ xs2) (ys ++ ys2)
  | [], [], _, _, _, h => h
  | _ :: _, _ :: _, _, _, h, h2 => ⟨h.1, RF.app h.2 h2⟩
  | [], _ :: _, _, _, h, _ => h.elim
  | _ :: _, [], _, _, h, _ => h.elim
theorem RF.split {w : World} {B : Nat → Prop} : ∀ {xs : List Rec} {ys ys2 : List (Tr El)}, RF w B xs (ys ++ ys2) → ∃ a b, xs = a ++ b ∧ RF w B a ys ∧ RF w B b ys2
  | xs, [], _, h => ⟨[], xs, rfl, trivial, h⟩
  | [], _ :: _, _, h => h.elim
  | x :: xs, y :: ys, _, h => by
    obtain ⟨a, b, rfl, h1, h2⟩ := RF.split (xs := xs) (ys := ys) h.2
    exact ⟨x :: a, b, rfl, ⟨h.1, h1⟩, h2⟩
theorem RF.mem {w : World} {B : Nat → Prop} {key : El → Int} {q : Int → Prop} : ∀ {xs : List Rec} {ys : List (Tr El)}, RF w B xs ys → (∀ y ∈ ys, q (key y.v)) → ∀ x ∈ xs, q (key x.v)
  | [], [], _, _, x, hx => by cases hx
  | x :: xs, y :: ys, h, hq, z, hz => by
    rcases List.mem_cons.1 hz with rfl | hz
    · rw [h.1.1]; exact hq y (List.mem_cons_self ..)
    · exact RF.mem h.2 (fun y hy => hq y (List.mem_cons_of_mem _ hy)) z hz
  | [], _ :: _, h, _, _, _ => h.elim
  | _ :: _, [], h, _, _, _ => h.elim
end Go.Proofs.YteimalemecgomaaGreat.Qi
