import Derived.Test.YtjcdjkfnmobhkaaGreatLKB
/- Rows of numbers behind a slice, that grow behind and are cut in front. -/
namespace Go.Proofs.YtjcdjkfnmobhkaaGreat
open Go.RowKit Go.Shelf Go.Lib
def encZ (a : Int) : Value := .int .i64 a
/-- A row of numbers behind a slice. -/
def IS (w : World) (v : Value) (xs : List Int) : Prop :=
  (v = .slice none 0 0 ∧ xs = []) ∨ ∃ g o cap, v = .slice (some ⟨g, o, none⟩) xs.length cap ∧ g < w.heap.size ∧ xs.length ≤ cap ∧ cap ≤ maxLen ∧
    (∀ j x, xs[j]? = some x → w.cell? ⟨g, o + j, none⟩ = some (.int .i64 x)) ∧ (∀ j, j < cap → (w.cell? ⟨g, o + j, none⟩).isSome = true ∧ w.frozen? ⟨g, o + j, none⟩ = false)
theorem IS.shape {w : World} {v : Value} {xs : List Int} (h : IS w v xs) : ∃ p c, v = .slice p xs.length c := by
  rcases h with ⟨rfl, rfl⟩ | ⟨g, o, cap, rfl, _⟩
  · exact ⟨_, _, rfl⟩
  · exact ⟨_, _, rfl⟩
theorem IS.lt {w : World} {v : Value} {xs : List Int} (h : IS w v xs) {k : Nat} (hk : Qd.nbk v = some k) : k < w.heap.size := by
  rcases h with ⟨rfl, _⟩ | ⟨g, o, cap, rfl, hg, _⟩
  · cases hk
  · cases hk; exact hg
theorem IS.mv {w w' : World} {v : Value} {xs : List Int} {E : Nat → Prop} (h : IS w v xs) (m : Mv E w w') (hE : ∀ k, Qd.nbk v = some k → ¬ E k) : IS w' v xs := by
  rcases h with h | ⟨g, o, cap, rfl, hg, h1, h2, h3, h4⟩
  · exact .inl h
  · have hb := m.block g hg (hE g rfl)
    have hc : ∀ j, w'.cell? ⟨g, o + j, none⟩ = w.cell? ⟨g, o + j, none⟩ := fun j => World.cell?_of_block hb
    have hf : ∀ j, w'.frozen? ⟨g, o + j, none⟩ = w.frozen? ⟨g, o + j, none⟩ := fun j => by unfold World.frozen?; rw [hb]
    exact .inr ⟨g, o, cap, rfl, Nat.lt_of_lt_of_le hg m.size, h1, h2, fun j x hx => (hc j).trans (h3 j x hx), fun j hj => by rw [hc, hf]; exact h4 j hj⟩
theorem IS.own {w : World} {v : Value} {base : Nat} {e : TypeId} {xs : List Int} (h : w.ownsRow base e 1 v xs.length (xs.map encZ)) : IS w v xs := by
  rcases h.2 with ⟨rfl, h0⟩ | ⟨g, cap, cur, rfl, _, hg, h1, h2, h3, h4⟩
  · exact .inl ⟨rfl, List.eq_nil_of_length_eq_zero h0⟩
  · refine .inr ⟨g, 0, cap, rfl, (Array.getElem?_eq_some_iff.1 hg).1, h1, h2, fun j x hx => ?_, fun j hj => ?_⟩
    · have := h.cells (g := g) rfl j (encZ x) (by rw [List.getElem?_map, hx]; rfl)
      rw [Addr.add_lit] at this
      exact this
    · unfold World.cell? World.frozen?
      rw [hg]
      have : j < cur.size := by rw [h3]; omega
      simp [this]
theorem infoZ : ∃ i, Tryz.prog.info? 3 = some i ∧ i.zero = some (.int .i64 0) ∧ i.size = 1 ∧ i.bytes = 8 := by
  have h : (Tryz.prog.info? 3).map (fun i => (i.zero, i.size, i.bytes)) = some (some (.int .i64 0), 1, 8) := by kernel_rfl
  cases e : Tryz.prog.info? 3 with
  | none => rw [e] at h; cases h
  | some i => rw [e] at h; simp at h; exact ⟨i, rfl, h⟩
theorem IS.append {w : World} {v : Value} {xs : List Int} (h : IS w v xs) {a : Addr} {s : Int} {c : Nat} (ha : w.cell? a = some (.int .i64 s)) (hl : xs.length ≤ 1000000) (ty : TypeId) :
    ∃ v' w', (Builtin.append_ #[55, 55] ty #[v, .slice (some a) 1 c]).run Tryz.prog w = .ok v' w' ∧ IS w' v' (xs ++ [s]) ∧ Mv (fun k => Qd.nbk v = some k) w w' ∧ (Qd.nbk v' = Qd.nbk v ∨ ∃ k, Qd.nbk v' = some k ∧ w.heap.size ≤ k) := by
  have hnews : ∀ j u, [encZ s][j]? = some u → w.cell? (a.add j) = some u := by
    intro j u hj
    match j, hj with
    | 0, hj =>
      simp at hj; subst hj
      rw [encZ, ← ha]; congr 1
  have he : (xs ++ [s]).map encZ = xs.map encZ ++ [encZ s] := by simp
  have hL : (xs ++ [s]).length = xs.length + 1 := by simp
  obtain ⟨i0, hi, hz0, hz1, hz2⟩ := infoZ
  have h1c : ∀ u ∈ [encZ s], u.oneCell' = true := fun u hu => by simp at hu; subst hu; rfl
  rcases h with ⟨rfl, rfl⟩ | ⟨g, o, cap, rfl, hg, h1, h2, h3, h4⟩
  · obtain ⟨v', w', hrun, ho, hgr, _, hat⟩ := run_append_own_at (P := Tryz.prog) w w.heap.size 55 ty 3 _ (.int .i64 0) 1 8 Tryz.underlying55 hi hz0 hz1 hz2 rfl (by decide) (.slice none 0 0) 0 [] (World.ownsRow_nil w _ _ _) a 1 c [encZ s] rfl hnews h1c (by unfold maxLen; omega) (by omega) (Nat.le_refl _)
    refine ⟨v', w', hrun, IS.own (base := w.heap.size) (e := 3) (by rw [he]; exact ho), (Mv.refl _ _).grown hgr (fun k e => by cases e), ?_⟩
    rcases ho.2 with ⟨rfl, h0⟩ | ⟨g, cap, cur, rfl, _, hg, _⟩
    · simp at h0
    · rcases hat with hat | hat
      · cases hat
      · exact .inr ⟨w.heap.size, by simpa [Value.ownBlock, Qd.nbk] using hat, Nat.le_refl _⟩
  · by_cases hr : xs.length + 1 ≤ cap
    · have hrun := run_append_room_cells (P := Tryz.prog) w 55 ty 3 _ Tryz.underlying55 hi g o xs.length cap a 1 c [encZ s] (by rw [hz1]; rfl) hnews h1c hr (fun j hj => by rw [hz1, Nat.mul_one, Nat.add_assoc]; exact (h4 (xs.length + j) (by simp at hj; omega)).1) (fun j hj => by rw [hz1, Nat.mul_one, Nat.add_assoc]; exact (h4 (xs.length + j) (by simp at hj; omega)).2)
      rw [hz1, Nat.mul_one] at hrun
      have hth : ∀ j, j < [encZ s].length → (w.cell? ⟨g, o + xs.length + j, none⟩).isSome = true := fun j hj => by rw [Nat.add_assoc]; exact (h4 (xs.length + j) (by simp at hj; omega)).1
      refine ⟨_, _, hrun, .inr ⟨g, o, cap, by rw [hL], Nat.lt_of_lt_of_le hg ((Mv.refl (fun k => k = g) w).setCells (.inl rfl) _ _).size, by rw [hL]; exact hr, h2, fun j y hy => ?_, fun j hj => ?_⟩, (Mv.refl (fun k => Qd.nbk (Value.slice (some ⟨g, o, none⟩) xs.length cap) = some k) w).setCells (.inl rfl) _ _, .inl rfl⟩
      · rcases Nat.lt_or_ge j xs.length with hj | hj
        · rw [World.cell?_setCells_out _ _ _ _ _ (fun _ _ => .inl (by show o + j < _; omega))]
          rw [List.getElem?_append_left hj] at hy
          exact h3 j y hy
        · rw [List.getElem?_append_right hj] at hy
          obtain ⟨i, rfl⟩ : ∃ i, j = xs.length + i := ⟨j - xs.length, by omega⟩
          rw [show xs.length + i - xs.length = i by omega] at hy
          match i, hy with
          | 0, hy =>
            simp at hy; subst hy
            rw [← Nat.add_assoc, World.cell?_setCells_in g _ _ w hth 0 (by simp)]; rfl
      · refine ⟨World.isSome_setCells _ _ _ _ _ (h4 j hj).1, by rw [World.frozen?_setCells]; exact (h4 j hj).2⟩
    · have hold : ∀ j u, (xs.map encZ)[j]? = some u → w.cell? ((⟨g, o, none⟩ : Addr).add j) = some u := fun j u hj => by
        rw [Addr.add_lit]
        rw [List.getElem?_map] at hj
        obtain ⟨x, hx, rfl⟩ := Option.map_eq_some_iff.1 hj
        exact h3 j x hx
      obtain ⟨v', w', hrun, ho, hgr⟩ := run_append_arg_grows (P := Tryz.prog) w 55 ty 3 _ (.int .i64 0) 1 8 Tryz.underlying55 hi hz0 hz1 hz2 rfl (by decide) ⟨g, o, none⟩ xs.length cap (xs.map encZ) (by simp) hold a 1 c [encZ s] rfl hnews (by omega) (by unfold maxLen; omega) (by omega)
      rw [← he, ← hL] at ho
      refine ⟨v', w', hrun, IS.own ho, (Mv.refl _ _).grown hgr (fun k e => by cases e), .inr ?_⟩
      rcases ho.2 with ⟨rfl, h0⟩ | ⟨g2, cap2, cur, rfl, hb2, hg2, _⟩
      · simp at h0
      · exact ⟨g2, rfl, hb2⟩
/-- Its first number is cut off. -/
theorem IS.cut {w : World} {x : Int} {r : List Int} {v : Value} (h : IS w v (x :: r)) : ∃ g o cap, v = .slice (some ⟨g, o, none⟩) (r.length + 1) cap ∧ w.cell? ⟨g, o, none⟩ = some (.int .i64 x) ∧ r.length + 1 ≤ cap ∧ cap ≤ maxLen ∧ IS w (.slice (if cap = 1 then some ⟨g, o, none⟩ else some ⟨g, o + 1, none⟩) r.length (cap - 1)) r := by
  rcases h with ⟨_, h⟩ | ⟨g, o, cap, rfl, hg, h1, h2, h3, h4⟩
  · cases h
  · refine ⟨g, o, cap, rfl, h3 0 x rfl, h1, h2, ?_⟩
    simp only [List.length_cons] at h1
    by_cases hc : cap = 1
    · rw [if_pos hc]
      subst hc
      obtain rfl : r = [] := List.eq_nil_of_length_eq_zero (by omega)
      exact .inr ⟨g, o, 0, rfl, hg, by simp, by omega, fun j x hx => by simp at hx, fun j hj => by omega⟩
    · rw [if_neg hc]
      exact .inr ⟨g, o + 1, cap - 1, rfl, hg, by omega, by omega, fun j y hy => by rw [show o + 1 + j = o + (j + 1) by omega]; exact h3 (j + 1) y hy, fun j hj => by rw [show o + 1 + j = o + (j + 1) by omega]; exact h4 (j + 1) (by omega)⟩
end Go.Proofs.YtjcdjkfnmobhkaaGreat
/- LoopKinds: plain. -/
namespace Go.Proofs.YtjcdjkfnmobhkaaGreat
open Go.RowKit Go.Shelf Go.Lib
def kp (x : Wt) : Int × Int := (x.k, x.p)
def insP (v : Int × Int) : List (Int × Int) → List (Int × Int)
  | [] => [v]
  | y :: L => if v.1 < y.1 then v :: y :: L else y :: insP v L
theorem insA_kp {v : Wt} {n : Int} (hv : v.n = n) : ∀ {L : List Wt}, (∀ x ∈ L, x.n < n) → (insA keyW v L).map kp = insP (kp v) (L.map kp)
  | [], _ => rfl
  | y :: L, h => by
    have hy := h y (List.mem_cons_self ..)
    have hk := keyW_less v y
    unfold insA
    rw [List.map_cons]
    unfold insP
    by_cases e : v.k < y.k
    · rw [if_pos (hk.2 (.inl e)), if_pos (show (kp v).1 < (kp y).1 from e)]; rfl
    · rw [if_neg (fun z => by rcases hk.1 z with z | ⟨_, z⟩ <;> omega), if_neg (show ¬ (kp v).1 < (kp y).1 from e), List.map_cons, insA_kp hv fun x hx => h x (List.mem_cons_of_mem _ hx)]
theorem insP_pass {v : Int × Int} : ∀ {A B : List (Int × Int)}, (∀ x ∈ A, ¬ v.1 < x.1) → insP v (A ++ B) = A ++ insP v B
  | [], _, _ => rfl
  | y :: A, B, h => by
    show (if v.1 < y.1 then v :: y :: (A ++ B) else y :: insP v (A ++ B)) = y :: (A ++ insP v B)
    rw [if_neg (h y (List.mem_cons_self ..)), insP_pass fun x hx => h x (List.mem_cons_of_mem _ hx)]
theorem insP_here {v : Int × Int} {B : List (Int × Int)} (h : ∀ x ∈ B, v.1 < x.1) : insP v B = v :: B := by
  cases B with
  | nil => rfl
  | cons y B =>
    unfold insP
    rw [if_pos (h y (List.mem_cons_self ..))]
/-- Those of kind j. -/
def gK (ls : Nat → List Int) (j : Nat) : List (Int × Int) := (ls j).map fun p => ((j : Int), p)
/-- Those of the kinds from j on. -/
def fK (ls : Nat → List Int) : Nat → Nat → List (Int × Int)
  | 0, _ => []
  | f + 1, j => gK ls j ++ fK ls f (j + 1)
theorem gK_fst {ls : Nat → List Int} {j : Nat} {x : Int × Int} (h : x ∈ gK ls j) : x.1 = j := by
  obtain ⟨p, _, rfl⟩ := List.mem_map.1 h; rfl
theorem fK_ge {ls : Nat → List Int} : ∀ {f j : Nat} {x : Int × Int}, x ∈ fK ls f j → (j : Int) ≤ x.1
  | 0, _, _, h => by cases h
  | f + 1, j, x, h => by
    rcases List.mem_append.1 h with h | h
    · rw [gK_fst h]; exact Int.le_refl _
    · have := fK_ge h; omega
def updL (ls : Nat → List Int) (k : Nat) (r : List Int) : Nat → List Int := fun j => if j = k then r else ls j
theorem updL_same (ls : Nat → List Int) (k : Nat) (r : List Int) : updL ls k r k = r := if_pos rfl
theorem updL_ne {ls : Nat → List Int} {k j : Nat} (r : List Int) (h : j ≠ k) : updL ls k r j = ls j := if_neg h
theorem fK_cong {ls ls' : Nat → List Int} : ∀ {f j : Nat}, (∀ i, j ≤ i → ls' i = ls i) → fK ls' f j = fK ls f j
  | 0, _, _ => rfl
  | f + 1, j, h => by
    unfold fK gK
    rw [h j (Nat.le_refl _), fK_cong fun i hi => h i (by omega)]
theorem fK_ins {ls : Nat → List Int} {k : Nat} {p : Int} : ∀ {f j : Nat}, j ≤ k → k < j + f → insP ((k : Int), p) (fK ls f j) = fK (updL ls k (ls k ++ [p])) f j
  | 0, j, h1, h2 => by omega
  | f + 1, j, h1, h2 => by
    unfold fK
    by_cases e : j = k
    · subst e
      rw [insP_pass fun x hx => by rw [gK_fst hx]; exact Int.lt_irrefl _, insP_here fun x hx => by have := fK_ge hx; show (j : Int) < x.1; omega]
      have e2 : fK (updL ls j (ls j ++ [p])) f (j + 1) = fK ls f (j + 1) := fK_cong fun i hi => updL_ne _ (by omega)
      rw [e2]
      unfold gK
      rw [updL_same, List.map_append, List.append_assoc]; rfl
    · rw [insP_pass fun x hx => by rw [gK_fst hx]; show ¬ (k : Int) < (j : Int); omega, fK_ins (by omega) (by omega)]
      unfold gK
      rw [updL_ne _ e]
/-- What waits, by kinds. -/
def Kn (L : List Wt) (ls : Nat → List Int) : Prop := L.map kp = fK ls 6 1
theorem Kn.push {L : List Wt} {ls : Nat → List Int} (h : Kn L ls) {v : Wt} {n : Int} (hv : v.n = n) (hL : ∀ x ∈ L, x.n < n) {k : Nat} {p : Int} (hk : v.k = (k : Int)) (hp : v.p = p) (k1 : 1 ≤ k) (k2 : k ≤ 6) : Kn (insA keyW v L) (updL ls k (ls k ++ [p])) := by
  show (insA keyW v L).map kp = _
  have e : kp v = ((k : Int), p) := by unfold kp; rw [hk, hp]
  rw [insA_kp hv hL, h, e]
  exact fK_ins k1 (by omega)
/-- The kinds below j are empty. -/
theorem fK_skip {ls : Nat → List Int} : ∀ {f j : Nat}, (∀ i, j ≤ i → i < j + f → ls i = []) → fK ls f j = []
  | 0, _, _ => rfl
  | f + 1, j, h => by
    unfold fK gK
    rw [h j (Nat.le_refl _) (by omega), fK_skip fun i h1 h2 => h i (by omega) (by omega)]; rfl
theorem fK_head {ls : Nat → List Int} {k : Nat} {x : Int} {r : List Int} (hk : ls k = x :: r) : ∀ {f j : Nat}, j ≤ k → k < j + f → (∀ i, j ≤ i → i < k → ls i = []) → fK ls f j = ((k : Int), x) :: fK (updL ls k r) f j
  | 0, j, h1, h2, _ => by omega
  | f + 1, j, h1, h2, h3 => by
    unfold fK
    by_cases e : j = k
    · subst e
      have e2 : fK (updL ls j r) f (j + 1) = fK ls f (j + 1) := fK_cong fun i hi => updL_ne _ (by omega)
      rw [e2]
      unfold gK
      rw [updL_same, hk]; rfl
    · have hj := h3 j (Nat.le_refl _) (by omega)
      rw [fK_head hk (by omega) (by omega) fun i i1 i2 => h3 i (by omega) i2]
      unfold gK
      rw [updL_ne _ e, hj]; rfl
theorem Kn.head {y : Wt} {L : List Wt} {ls : Nat → List Int} (h : Kn (y :: L) ls) {k : Nat} (k1 : 1 ≤ k) (k2 : k ≤ 6) {x : Int} {r : List Int} (hk : ls k = x :: r) (h3 : ∀ i, 1 ≤ i → i < k → ls i = []) : y.k = (k : Int) ∧ y.p = x ∧ Kn L (updL ls k r) := by
  have e := fK_head hk k1 (show k < 1 + 6 by omega) h3
  have h' : kp y :: L.map kp = fK ls 6 1 := h
  rw [e] at h'
  injection h' with h1 h2
  exact ⟨congrArg Prod.fst h1, congrArg Prod.snd h1, h2⟩
theorem Kn.none {L : List Wt} {ls : Nat → List Int} (h : Kn L ls) (he : ∀ i, 1 ≤ i → i ≤ 6 → ls i = []) : L = [] := by
  have : L.map kp = [] := h.trans (fK_skip fun i h1 h2 => he i h1 (by omega))
  simpa using this
end Go.Proofs.YtjcdjkfnmobhkaaGreat
/- LoopKinds: the loop and the rows that are left, in memory. -/
namespace Go.Proofs.YtjcdjkfnmobhkaaGreat
open Go.RowKit Go.Shelf Go.Lib
attribute [local go_sem] Oper.semAt_some
/-- A loop that a law has made; beside it the rows of those that are left, by kind. -/
structure Ki (w : World) (lb a7 : Nat) (L : List Wt) (n : Nat) (vs : Nat → Value) (ls : Nat → List Int) (E : Nat → Prop) (W : World) : Prop where
  lo : Lo W lb E L n []
  e : ∀ k, E k → w.heap.size ≤ k
  b : Below w.heap.size w W
  ca : ∀ j, j < 7 → W.cell? ⟨a7, j, none⟩ = some (vs j)
  fa : ∀ j, j < 7 → W.frozen? ⟨a7, j, none⟩ = false
  a0 : w.heap.size ≤ a7
  a1 : ¬ E a7
  is : ∀ j, j < 7 → IS W (vs j) (ls j)
  nk : ∀ j, j < 7 → ∀ k, Qd.nbk (vs j) = some k → w.heap.size ≤ k ∧ k ≠ a7 ∧ ¬ E k
  ap : ∀ i j, i < 7 → j < 7 → i ≠ j → ∀ k, Qd.nbk (vs i) = some k → Qd.nbk (vs j) ≠ some k
theorem Ki.a7lt {w : World} {lb a7 : Nat} {L : List Wt} {n : Nat} {vs : Nat → Value} {ls : Nat → List Int} {E : Nat → Prop} {W : World} (h : Ki w lb a7 L n vs ls E W) : a7 < W.heap.size := cell_lt (h.ca 0 (by omega))
theorem Ki.go {w : World} {lb a7 : Nat} {L L' : List Wt} {n n' : Nat} {vs : Nat → Value} {ls : Nat → List Int} {E : Nat → Prop} {W V : World} (h : Ki w lb a7 L n vs ls E W) (g : Lg W lb E L' n' [] V) : ∃ E', Ki w lb a7 L' n' vs ls E' V := by
  obtain ⟨E', l, m, gr⟩ := g
  have sz := h.b.size
  refine ⟨E', l, fun k hk => (gr k hk).elim (h.e k) (fun s => by omega), h.b.trans (m.toBelow h.b.size fun k hk e => by have := h.e k e; omega), fun j hj => m.cell (a := ⟨a7, j, none⟩) h.a1 (h.ca j hj), fun j hj => (m.froz (a := ⟨a7, j, none⟩) h.a1 h.a7lt).trans (h.fa j hj), h.a0, fun e => ?_, fun j hj => (h.is j hj).mv m fun k hk => (h.nk j hj k hk).2.2, fun j hj k hk => ⟨(h.nk j hj k hk).1, (h.nk j hj k hk).2.1, fun e => ?_⟩, h.ap⟩
  · rcases gr a7 e with s | s
    · exact h.a1 s
    · have := h.a7lt; omega
  · rcases gr k e with s | s
    · exact (h.nk j hj k hk).2.2 s
    · have := (h.is j hj).lt hk; omega
theorem Ki.below {w : World} {lb a7 : Nat} {L : List Wt} {n : Nat} {vs : Nat → Value} {ls : Nat → List Int} {E : Nat → Prop} {W V : World} (h : Ki w lb a7 L n vs ls E W) (b : Below W.heap.size W V) : Ki w lb a7 L n vs ls E V :=
  ⟨h.lo.below b, h.e, h.b.trans (b.mono h.b.size), fun j hj => bcell b h.a7lt (h.ca j hj), fun j hj => (bfroz b h.a7lt).trans (h.fa j hj), h.a0, h.a1, fun j hj => (h.is j hj).mv (E := fun _ => False) (Mv.below b) (fun _ _ h => h), h.nk, h.ap⟩
def updV (vs : Nat → Value) (k : Nat) (v : Value) : Nat → Value := fun j => if j = k then v else vs j
theorem updV_same (vs : Nat → Value) (k : Nat) (v : Value) : updV vs k v k = v := if_pos rfl
theorem updV_ne {vs : Nat → Value} {k j : Nat} (v : Value) (h : j ≠ k) : updV vs k v j = vs j := if_neg h
/-- A row turned, and its slice laid anew. -/
theorem Ki.set {w : World} {lb a7 : Nat} {L : List Wt} {n : Nat} {vs : Nat → Value} {ls : Nat → List Int} {E : Nat → Prop} {W A V : World} (h : Ki w lb a7 L n vs ls E W) {k : Nat} (hk : k < 7) {v' : Value} {r : List Int} (ha : IS A v' r) (m : Mv (fun j => Qd.nbk (vs k) = some j) W A) (at' : Qd.nbk v' = Qd.nbk (vs k) ∨ ∃ j, Qd.nbk v' = some j ∧ W.heap.size ≤ j) (hV : A.setCell ⟨a7, k, none⟩ v' = V) : Ki w lb a7 L n (updV vs k v') (updL ls k r) E V := by
  have nk := h.nk k hk
  have la := h.a7lt
  have szA := m.size
  have ne7 : ¬ Qd.nbk (vs k) = some a7 := fun e => (nk a7 e).2.1 rfl
  have cA := Cv.one A a7 k v'
  rw [hV] at cA
  have mV : Mv (fun j => j = a7) A V := cA.mv.mono fun k _ s => by obtain ⟨j, s, _⟩ := s; exact s
  have hv' : ∀ j, Qd.nbk v' = some j → w.heap.size ≤ j ∧ j ≠ a7 ∧ ¬ E j := fun j hj => by
    rcases at' with e | ⟨j', e, hj'⟩
    · exact nk j (e ▸ hj)
    · rw [hj] at e; injection e with e
      have sz := h.b.size
      exact ⟨by omega, by omega, fun z => by have := h.lo.lt.1 j z; omega⟩
  have hca : ∀ j, j < 7 → A.cell? ⟨a7, j, none⟩ = some (vs j) := fun j hj => m.cell (a := ⟨a7, j, none⟩) ne7 (h.ca j hj)
  have sep : ∀ j, j < 7 → j ≠ k → ∀ x, Qd.nbk (vs j) = some x → ¬ Qd.nbk (vs k) = some x := fun j hj e x hx hx' => h.ap j k hj hk e x hx hx'
  refine ⟨(h.lo.mv m fun x hx e => (nk x e).2.2 hx).mv mV fun x hx e => h.a1 (e ▸ hx), h.e, (h.b.trans (m.toBelow h.b.size fun x hx e => by have := (nk x e).1; omega)).trans (mV.toBelow (Nat.le_trans h.b.size szA) fun x hx e => by have := h.a0; omega), fun j hj => ?_, fun j hj => (cA.fr a7 j (Nat.lt_of_lt_of_le la szA)).trans ((m.froz (a := ⟨a7, j, none⟩) ne7 la).trans (h.fa j hj)), h.a0, h.a1, fun j hj => ?_, fun j hj x hx => ?_, fun i j hi hj hij x hx hx' => ?_⟩
  · by_cases e : j = k
    · subst e; rw [updV_same, ← hV]; exact World.cell?_setCell_same _ _ _ (hca j hj)
    · rw [updV_ne _ e]; exact cA.cell (fun s => e s.2) (hca j hj)
  · by_cases e : j = k
    · subst e; rw [updV_same, updL_same]; exact ha.mv mV fun x hx e => (hv' x hx).2.1 e
    · rw [updV_ne _ e, updL_ne _ e]; exact ((h.is j hj).mv m fun x hx => sep j hj e x hx).mv mV fun x hx e2 => (h.nk j hj x hx).2.1 e2
  · by_cases e : j = k
    · subst e; rw [updV_same] at hx; exact hv' x hx
    · rw [updV_ne _ e] at hx; exact h.nk j hj x hx
  · have key : ∀ j, j < 7 → j ≠ k → Qd.nbk (vs j) = some x → Qd.nbk v' = some x → False := fun j hj e h1 h2 => by
      rcases at' with z | ⟨j', z, hj'⟩
      · exact sep j hj e x h1 (z ▸ h2)
      · rw [h2] at z; injection z with z
        have := (h.is j hj).lt h1; omega
    by_cases e1 : i = k
    · subst e1
      rw [updV_same] at hx
      rw [updV_ne _ (fun z => hij z.symm)] at hx'
      exact key j hj (fun z => hij z.symm) hx' hx
    · rw [updV_ne _ e1] at hx
      by_cases e2 : j = k
      · subst e2
        rw [updV_same] at hx'
        exact key i hi e1 hx hx'
      · rw [updV_ne _ e2] at hx'
        exact h.ap i j hi hj hij x hx hx'
end Go.Proofs.YtjcdjkfnmobhkaaGreat
/- LoopKinds: the walk. -/
namespace Go.Proofs.YtjcdjkfnmobhkaaGreat
open Go.RowKit Go.Shelf Go.Lib
attribute [local go_sem] Oper.semAt_some
/-- Where the walk stands. -/
def KS (w : World) (lb a7 c i : Nat) (W : World) : Prop := ∃ L pn vs ls E, Ki w lb a7 L pn vs ls E W ∧ Kn L ls ∧ pn ≤ i ∧ L.length = c
/-- A push of kind k. -/
theorem KS.push {w : World} {lb a7 c i : Nat} {W : World} (h : KS w lb a7 c i W) (hi : i ≤ 80) {k : Nat} (k1 : 1 ≤ k) (k2 : k ≤ 6) :
    Calls Tryz.prog 9 #[.pointer (some ⟨lb, 0, none⟩), .agg #[.int .i64 k, .int .i64 i, .int .i64 0, .string ⟨#[]⟩, .string ⟨#[]⟩]] W fun e V => e = .returned (.int .i64 0) ∧ ∃ p len cc, V.cell? ⟨a7, k, none⟩ = some (.slice p len cc) ∧ V.frozen? ⟨a7, k, none⟩ = false ∧ ∃ A0 v' A V2, V.alloc (.cells #[.int .i64 i] 3) = A0 ∧ (Builtin.append_ #[55, 55] 55 #[.slice p len cc, .slice (some ⟨V.heap.size, 0, none⟩) 1 1]).run Tryz.prog A0 = .ok v' A ∧ A.cell? ⟨a7, k, none⟩ = some (.slice p len cc) ∧ A.frozen? ⟨a7, k, none⟩ = false ∧ (∃ p' l' c', v' = .slice p' l' c') ∧ A.setCell ⟨a7, k, none⟩ v' = V2 ∧ KS w lb a7 (c + 1) (i + 1) V2 := by
  obtain ⟨L, pn, vs, ls, E, hk, hn, hp, hc⟩ := h
  have hL : ∀ x ∈ L, x.n < pn := by obtain ⟨_, _, _, _, _, _, _, _, _, h7, _⟩ := hk.lo; exact h7
  refine (pushl_any hk.lo (by omega) (k : Int) (i : Int) 0 ⟨#[]⟩ ⟨#[]⟩ (by omega) (by omega)).mono ?_
  rintro e V ⟨rfl, g⟩
  obtain ⟨E', hk'⟩ := hk.go g
  have hn' := hn.push (v := mkW (k : Int) (i : Int) 0 ⟨#[]⟩ ⟨#[]⟩ pn (by omega)) (n := (pn : Int)) rfl hL (k := k) (p := (i : Int)) rfl rfl k1 k2
  obtain ⟨p, cc, hv⟩ := (hk'.is k (by omega)).shape
  have c0 := hk'.ca k (by omega)
  rw [hv] at c0
  have f0 := hk'.fa k (by omega)
  obtain ⟨A0, hA0⟩ : ∃ A0, V.alloc (.cells #[.int .i64 i] 3) = A0 := ⟨_, rfl⟩
  have b0 : Below V.heap.size V A0 := by rw [← hA0]; exact (Below.refl _ _).alloc (Nat.le_refl _) _
  have hk0 := hk'.below b0
  have hll : (ls k).length ≤ 1000000 := by
    have : (gK ls k).length ≤ (L.map kp).length := by
      rw [hn]
      have key : ∀ (f j : Nat), j ≤ k → k < j + f → (gK ls k).length ≤ (fK ls f j).length := fun f => by
        induction f with
        | zero => intro j h1 h2; omega
        | succ f ih =>
          intro j h1 h2
          unfold fK
          rw [List.length_append]
          by_cases e : j = k
          · subst e; omega
          · have := ih (j + 1) (by omega) (by omega); omega
      exact key 6 1 k1 (by omega)
    unfold gK at this
    rw [List.length_map, List.length_map] at this
    have := (Qu.q hk.lo.choose_spec.choose_spec.choose_spec.1).2.2
    omega
  obtain ⟨v', A, hrun, ha, m, at'⟩ := (hk0.is k (by omega)).append (a := ⟨V.heap.size, 0, none⟩) (s := (i : Int)) (c := 1) (by rw [← hA0]; exact cell_at rfl rfl) hll 55
  have hset := hk0.set (k := k) (by omega) ha m at' rfl
  have ne7 : ¬ Qd.nbk (vs k) = some a7 := fun e => ((hk0.nk k (by omega)) a7 e).2.1 rfl
  rw [hv] at hrun
  refine ⟨rfl, p, _, cc, c0, f0, A0, v', A, _, hA0, hrun, ?_, ?_, ?_, rfl, _, pn + 1, _, _, E', hset, hn', by omega, by rw [insA_len, hc]⟩
  · have := m.cell (a := ⟨a7, k, none⟩) ne7 (hk0.ca k (by omega))
    rw [hv] at this; exact this
  · exact (m.froz (a := ⟨a7, k, none⟩) ne7 hk0.a7lt).trans (hk0.fa k (by omega))
  · obtain ⟨p', c', e⟩ := ha.shape
    exact ⟨p', _, c', e⟩
end Go.Proofs.YtjcdjkfnmobhkaaGreat
/- LoopKinds: the walk. -/
namespace Go.Proofs.YtjcdjkfnmobhkaaGreat
open Go.RowKit Go.Shelf Go.Lib
attribute [local go_sem] Oper.semAt_some
theorem IS.cut1 {w : World} {x : Int} {r : List Int} {v : Value} (h : IS w v (x :: r)) :
    ∃ g o cap dv, v = .slice (some ⟨g, o, none⟩) (r.length + 1) cap ∧ w.cell? ⟨g, o, none⟩ = some (.int .i64 x) ∧ (∀ W, (Instr.slice 55 (.slice (some ⟨g, o, none⟩) (r.length + 1) cap) (some (.int .i64 1)) none none).run Tryz.prog W = .ok dv W) ∧ IS w dv r ∧ Qd.nbk dv = Qd.nbk v ∧ ∃ p l c, dv = .slice p l c := by
  obtain ⟨g, o, cap, rfl, hc, h1, h2, h3⟩ := h.cut
  obtain ⟨i0, hi, hz0, hz1, hz2⟩ := infoZ
  refine ⟨g, o, cap, _, rfl, hc, fun W => ?_, h3, ?_, _, _, _, rfl⟩
  · by_cases e : cap = 1
    · subst e
      have : r.length = 0 := by omega
      simp [Instr.slice, Instr.sliceBounds, Instr.sliceBound, run_underlying Tryz.underlying55, sizeOf, typeInfo, hi, asIntOf, this, Addr.add_lit]
    · simp [Instr.slice, Instr.sliceBounds, Instr.sliceBound, run_underlying Tryz.underlying55, sizeOf, typeInfo, hi, asIntOf, hz1, e, Addr.add_lit]; intro z; omega
  · by_cases e : cap = 1
    · rw [if_pos e]; rfl
    · rw [if_neg e]; rfl
theorem KS.nextN {w : World} {lb a7 i : Nat} {W : World} (h : KS w lb a7 0 i W) :
    Calls Tryz.prog 11 #[.pointer (some ⟨lb, 0, none⟩)] W fun e V => e = .returned (.tuple #[.agg #[.int .i64 0, .int .i64 0, .int .i64 0, .string ⟨#[]⟩, .string ⟨#[]⟩], .bool false]) ∧ KS w lb a7 0 i V := by
  obtain ⟨L, pn, vs, ls, E, hk, hn, hp, hc⟩ := h
  have hL : L = [] := List.eq_nil_of_length_eq_zero hc
  subst hL
  refine (nextl_none hk.lo).mono ?_
  rintro e V ⟨rfl, b⟩
  exact ⟨rfl, [], pn, vs, ls, E, hk.below b, hn, hp, rfl⟩
/-- Behind a Next that told y. -/
def KT (w : World) (lb a7 c i : Nat) (yk yp : Int) (vs : Nat → Value) (ls : Nat → List Int) (W : World) : Prop := ∃ y L pn E, Ki w lb a7 L pn vs ls E W ∧ Kn (y :: L) ls ∧ pn ≤ i ∧ L.length = c ∧ y.k = yk ∧ y.p = yp
theorem KS.nextS {w : World} {lb a7 c i : Nat} {W : World} (h : KS w lb a7 (c + 1) i W) :
    Calls Tryz.prog 11 #[.pointer (some ⟨lb, 0, none⟩)] W fun e V => ∃ yk yp ys yu yx vs ls, e = .returned (.tuple #[.agg #[.int .i64 yk, .int .i64 yp, .int .i64 ys, .string yu, .string yx], .bool true]) ∧ KT w lb a7 c i yk yp vs ls V := by
  obtain ⟨L, pn, vs, ls, E, hk, hn, hp, hc⟩ := h
  cases L with
  | nil => simp at hc
  | cons y L =>
    refine (nextl_some hk.lo).mono ?_
    rintro e V ⟨rfl, g⟩
    obtain ⟨E', hk'⟩ := hk.go g
    exact ⟨y.k, y.p, y.s, y.u, y.x, vs, ls, rfl, y, L, pn, E', hk', hn, hp, by simpa using hc, rfl, rfl⟩
theorem KT.below {w : World} {lb a7 c i : Nat} {yk yp : Int} {vs : Nat → Value} {ls : Nat → List Int} {W V : World} (h : KT w lb a7 c i yk yp vs ls W) (b : Below W.heap.size W V) : KT w lb a7 c i yk yp vs ls V := by
  obtain ⟨y, L, pn, E, hk, h2⟩ := h
  exact ⟨y, L, pn, E, hk.below b, h2⟩
theorem KS.below {w : World} {lb a7 c i : Nat} {W V : World} (h : KS w lb a7 c i W) (b : Below W.heap.size W V) : KS w lb a7 c i V := by
  obtain ⟨L, pn, vs, ls, E, hk, h2⟩ := h
  exact ⟨L, pn, vs, ls, E, hk.below b, h2⟩
theorem KS.later {w : World} {lb a7 c i : Nat} {W : World} (h : KS w lb a7 c i W) : KS w lb a7 c (i + 1) W := by
  obtain ⟨L, pn, vs, ls, E, hk, h2, h3, h4⟩ := h
  exact ⟨L, pn, vs, ls, E, hk, h2, by omega, h4⟩
theorem KS.len {w : World} {lb a7 c i : Nat} {W : World} (h : KS w lb a7 c i W) : Calls Tryz.prog 20 #[.pointer (some ⟨lb, 0, none⟩)] W fun e V => e = .returned (.int .i64 c) ∧ V = W := by
  obtain ⟨L, pn, vs, ls, E, hk, h2, h3, rfl⟩ := h
  exact lenl_any hk.lo
theorem KS.w {w : World} {lb a7 c i : Nat} {W : World} (h : KS w lb a7 c i W) : Below w.heap.size w W := by
  obtain ⟨L, pn, vs, ls, E, hk, _⟩ := h
  exact hk.b
theorem KT.row {w : World} {lb a7 c i : Nat} {yk yp : Int} {vs : Nat → Value} {ls : Nat → List Int} {W : World} (h : KT w lb a7 c i yk yp vs ls W) {j : Nat} (hj : j < 7) : W.cell? ⟨a7, j, none⟩ = some (vs j) ∧ W.frozen? ⟨a7, j, none⟩ = false ∧ IS W (vs j) (ls j) := by
  obtain ⟨y, L, pn, E, hk, _⟩ := h
  exact ⟨hk.ca j hj, hk.fa j hj, hk.is j hj⟩
theorem KT.hit {w : World} {lb a7 c i : Nat} {yk yp : Int} {vs : Nat → Value} {ls : Nat → List Int} {W : World} (h : KT w lb a7 c i yk yp vs ls W) {j : Nat} (h1 : 1 ≤ j) (h2 : j ≤ 6) {x : Int} {r : List Int} (hr : ls j = x :: r) (hb : ∀ i, 1 ≤ i → i < j → ls i = []) :
    yk = (j : Int) ∧ yp = x ∧ ∀ dv V2, IS W dv r → Qd.nbk dv = Qd.nbk (vs j) → W.setCell ⟨a7, j, none⟩ dv = V2 → KS w lb a7 c (i + 1) V2 := by
  obtain ⟨y, L, pn, E, hk, hn, hp, hc, rfl, rfl⟩ := h
  obtain ⟨e1, e2, hn'⟩ := hn.head h1 h2 hr hb
  refine ⟨e1, e2, fun dv V2 hd hnb hV => ⟨L, pn, _, _, E, hk.set (k := j) (by omega) hd (Mv.refl _ _) (.inl hnb) hV, hn', by omega, hc⟩⟩
theorem KT.never {w : World} {lb a7 c i : Nat} {yk yp : Int} {vs : Nat → Value} {ls : Nat → List Int} {W : World} (h : KT w lb a7 c i yk yp vs ls W) (hb : ∀ i, 1 ≤ i → i ≤ 6 → ls i = []) : False := by
  obtain ⟨y, L, pn, E, hk, hn, _⟩ := h
  have := hn.none hb
  cases this
set_option maxRecDepth 100000 in
set_option maxHeartbeats 8000000 in
theorem kinds_walk (a : Option Addr) (b o n cap : Nat) (us : List Nat) (w : World) (ha : 0 < n → a = some ⟨b, o, none⟩) (hl : us.length = n) (hel : ∀ (j u : Nat), us[j]? = some u → w.cell? ⟨b, o + j, none⟩ = some (.int .u8 (u : Nat))) (hub : ∀ u ∈ us, u ≤ 255) (hml : n ≤ maxLen) :
    Calls Tryz.prog 5 #[.slice a n cap] w fun e w' => e = .returned (.bool true) ∧ Below w.heap.size w w' := by
  have hK := hidP (known_any w)
  have haH := hidP ha
  have hlH := hidP hl
  have helH := hidP hel
  have hubH := hidP hub
  have hnm : (n : Int) ≤ 9223372036854775807 := by unfold maxLen at hml; omega
  clear ha hl hel hub hml
  by_cases h80 : 80 < n
  · have h80I : (80 : Int) < (n : Int) := by omega
    go_enter Tryz.func5, Tryz.ntmps5
    go_wp2_with fail
    refine hK.out.mono ?_
    rintro e V ⟨rfl, hbV⟩
    have fin := hidP hbV
    clear hbV hK
    go_wp2_with fail
    go_ret
    exact ⟨rfl, fin.out⟩
  · have h80I : ¬ (80 : Int) < (n : Int) := by omega
    go_enter Tryz.func5, Tryz.ntmps5
    go_wp2_with fail
    refine hK.out.mono ?_
    rintro e V ⟨rfl, hbV⟩
    have hNw := hidP (newk hbV)
    clear hbV hK
    obtain ⟨lb, hlb⟩ : ∃ lb, V.heap.size = lb := ⟨_, rfl⟩
    rw [hlb] at hNw
    unfold lp at hNw
    go_wp2_with fail
    refine hNw.out.mono ?_
    rintro e V0 ⟨rfl, h0⟩
    obtain ⟨a7, ha7⟩ : ∃ a7, V0.heap.size = a7 := ⟨_, rfl⟩
    obtain ⟨W0, hW0⟩ : ∃ W0, V0.alloc (.cells #[.slice none 0 0, .slice none 0 0, .slice none 0 0, .slice none 0 0, .slice none 0 0, .slice none 0 0, .slice none 0 0] 56) = W0 := ⟨_, rfl⟩
    have hs0 : Hid (KS w lb a7 0 0 W0) := by
      obtain ⟨E, l, e1, b1⟩ := h0
      have b0 : Below V0.heap.size V0 W0 := by rw [← hW0]; exact (Below.refl _ _).alloc (Nat.le_refl _) _
      have hc : ∀ j, j < 7 → W0.cell? ⟨a7, j, none⟩ = some (.slice none 0 0) := fun j hj => by
        rw [← hW0]
        refine cell_at ha7 ?_
        match j, hj with
        | 0, _ => rfl
        | 1, _ => rfl
        | 2, _ => rfl
        | 3, _ => rfl
        | 4, _ => rfl
        | 5, _ => rfl
        | 6, _ => rfl
      exact ⟨[], 0, fun _ => .slice none 0 0, fun _ => [], E, ⟨l.below b0, e1, b1.trans (b0.mono b1.size), hc, fun j _ => by rw [← hW0]; exact froz_new ha7, by rw [← ha7]; exact b1.size, fun e => by have := l.lt.1 a7 e; omega, fun j _ => .inl ⟨rfl, rfl⟩, (fun j _ k hk => by cases hk), (fun i j _ _ _ k hk => by cases hk)⟩, rfl, Nat.le_refl _, rfl⟩
    clear h0 hNw hlb
    go_wp2_with (rw [hW0])
    go_loopw [5, 6] (fun s5 s6 wr => ∃ i c : Nat, i ≤ n ∧ c ≤ i ∧ s6 = .int .i64 i ∧ s5 = .int .i64 c ∧ Hid (KS w lb a7 c i wr)) (fun _ s6 _ => n - (intOf s6).toNat)
    case atStart => exact ⟨0, 0, Nat.zero_le _, Nat.le_refl _, rfl, rfl, hs0⟩
    case round =>
      clear hs0 hW0 ha7
      obtain ⟨i, c, hi, hci, rfl, rfl, hS⟩ := hrel
      by_cases hlt : i < n
      · obtain ⟨u, hu⟩ : ∃ u, us[i]? = some u := ⟨_, List.getElem?_eq_getElem (by have := hlH.out; omega)⟩
        have hub := hubH.out u (List.mem_of_getElem? hu)
        obtain rfl := haH.out (by omega)
        have hcu : wr.cell? ⟨b, o + i, none⟩ = some (.int .u8 u) := bcell hS.out.w (cell_lt (helH.out i u hu)) (helH.out i u hu)
        obtain ⟨rr, hrr⟩ : ∃ rr : Int, (u : Int) % 8 = rr := ⟨_, rfl⟩
        have hrr1 : (u : Int).tmod 8 = rr := by rw [Int.tmod_eq_emod_of_nonneg (by omega)]; exact hrr
        have hrr4 : IntKind.u8.wrap rr = rr := by rw [IntKind.wrap_u8]; omega
        have hrr5 : IntKind.i64.wrap rr = rr := by rw [IntKind.wrap_i64]; omega
        obtain ⟨k, hk⟩ : ∃ k : Nat, rr + 1 = (k : Int) := ⟨(rr + 1).toNat, by omega⟩
        have hkw : IntKind.i64.wrap (rr + 1) = (k : Int) := by rw [IntKind.wrap_i64]; omega
        have k1 : 1 ≤ k := by omega
        have k8 : k ≤ 8 := by omega
        have hr0 : 0 ≤ rr := by omega
        have hr8 : rr ≤ 7 := by omega
        have hiI : (i : Int) < 80 := by omega
        have hcI : (c : Int) ≤ 80 := by omega
        clear hu hub hrr
        by_cases hk6 : k ≤ 6
        · have hP := hidP (hS.out.push (by omega) k1 hk6)
          have hk6I : (k : Int) ≤ 6 := by omega
          have hk7 : k < 7 := by omega
          clear hS
          go_wp2_with fail
          refine hP.out.mono ?_
          rintro e V1 ⟨rfl, p, len, cc, c0, f0, A0, v', A, V2, hA0, hrun, cA, fA, ⟨p', l', c', rfl⟩, hV2, hS2⟩
          have hS2H := hidP hS2
          clear hP hS2
          go_wp2_with (first | rw [hA0] | rw [hV2] | (at_builtin; refine wpList_append_run rfl _ _ 55 rfl _ _ _ _ rfl rfl hrun ?_))
          go_roundw
          case rel => exact ⟨i + 1, c + 1, by omega, by omega, by go_num, by go_num, hS2H⟩
          case measure => simp [intOf]; omega
        · have hk6I : ¬ (k : Int) ≤ 6 := by omega
          have hk6D : decide ((k : Int) ≤ 6) = false := by simpa using hk6I
          by_cases hc0 : c = 0
          · have hN := hidP (KS.nextN (by rw [← hc0]; exact hS.out))
            have e0 : (c : Int) = 0 := by omega
            rw [e0]
            clear hS
            go_wp2_with fail
            refine hN.out.mono ?_
            rintro e V1 ⟨rfl, hS1⟩
            obtain ⟨ba, hba⟩ : ∃ ba, V1.heap.size = ba := ⟨_, rfl⟩
            obtain ⟨A0, hA0⟩ : ∃ A0, V1.alloc (.cells #[.int .i64 0, .int .i64 0, .int .i64 0, .string ⟨#[]⟩, .string ⟨#[]⟩] 32) = A0 := ⟨_, rfl⟩
            obtain ⟨A, hA⟩ : ∃ A, (((((A0.setCell ⟨ba, 0, none⟩ (.int .i64 0)).setCell ⟨ba, 1, none⟩ (.int .i64 0)).setCell ⟨ba, 2, none⟩ (.int .i64 0)).setCell ⟨ba, 3, none⟩ (.string ⟨#[]⟩)).setCell ⟨ba, 4, none⟩ (.string ⟨#[]⟩)) = A := ⟨_, rfl⟩
            have b0 : Below V1.heap.size V1 A0 := by rw [← hA0]; exact (Below.refl _ _).alloc (Nat.le_refl _) _
            have ka := Cv.cells A0 ba 0 [.int .i64 0, .int .i64 0, .int .i64 0, .string ⟨#[]⟩, .string ⟨#[]⟩]
            have bA : Below V1.heap.size V1 A := by
              refine b0.trans ?_
              rw [← hA]
              exact ka.mv.toBelow (n := V1.heap.size) b0.size (fun k hk e => by obtain ⟨j, e, _⟩ := e; omega)
            have cA0 : A0.cell? ⟨ba, 0, none⟩ = some (.int .i64 0) := by rw [← hA0]; exact cell_at hba rfl
            have cA1 : A0.cell? ⟨ba, 1, none⟩ = some (.int .i64 0) := by rw [← hA0]; exact cell_at hba rfl
            have cA2 : A0.cell? ⟨ba, 2, none⟩ = some (.int .i64 0) := by rw [← hA0]; exact cell_at hba rfl
            have cA3 : A0.cell? ⟨ba, 3, none⟩ = some (.string ⟨#[]⟩) := by rw [← hA0]; exact cell_at hba rfl
            have cA4 : A0.cell? ⟨ba, 4, none⟩ = some (.string ⟨#[]⟩) := by rw [← hA0]; exact cell_at hba rfl
            have fA0 : A0.frozen? ⟨ba, 0, none⟩ = false := by rw [← hA0]; exact froz_new hba
            have fA1 : A0.frozen? ⟨ba, 1, none⟩ = false := by rw [← hA0]; exact froz_new hba
            have fA2 : A0.frozen? ⟨ba, 2, none⟩ = false := by rw [← hA0]; exact froz_new hba
            have fA3 : A0.frozen? ⟨ba, 3, none⟩ = false := by rw [← hA0]; exact froz_new hba
            have fA4 : A0.frozen? ⟨ba, 4, none⟩ = false := by rw [← hA0]; exact froz_new hba
            have hL := hidP (hS1.below bA).len
            have hS2 := hidP (hS1.below bA).later
            clear hN hS1 bA b0 ka
            go_wp2_with (first | rw [hA0] | rw [hA])
            clear hba hA hA0 cA0 cA1 cA2 cA3 cA4 fA0 fA1 fA2 fA3 fA4
            go_loop [5, 10] (fun s5 s => s5 = .int .i64 0 ∧ s = .int .i64 1) (fun _ _ => 0)
            case atStart => exact ⟨rfl, rfl⟩
            case round =>
              obtain ⟨rfl, rfl⟩ := hrel
              go_wp2_with fail
              refine hL.out.mono ?_
              rintro e V2 ⟨rfl, rfl⟩
              go_wp2_with fail
              go_roundw
              case rel => exact ⟨i + 1, 0, by omega, by omega, by go_num, rfl, hS2⟩
              case measure => simp [intOf]; omega
          · obtain ⟨c1, hc1⟩ : ∃ c1, c = c1 + 1 := ⟨c - 1, by omega⟩
            have hX := hidP (KS.nextS (c := c1) (by rw [← hc1]; exact hS.out))
            have hcp : (0 : Int) < (c : Int) := by omega
            have hcw : IntKind.i64.wrap ((c : Int) - 1) = (c1 : Int) := by rw [IntKind.wrap_i64]; omega
            clear hS
            go_wp2_with fail
            refine hX.out.mono ?_
            rintro e V1 ⟨yk, yp, ys, yu, yx, vs, ls, rfl, hT⟩
            obtain ⟨ba, hba⟩ : ∃ ba, V1.heap.size = ba := ⟨_, rfl⟩
            obtain ⟨A, hA⟩ : ∃ A, V1.alloc (.cells #[.int .i64 yk, .int .i64 yp, .int .i64 ys, .string yu, .string yx] 32) = A := ⟨_, rfl⟩
            have bA : Below V1.heap.size V1 A := by rw [← hA]; exact (Below.refl _ _).alloc (Nat.le_refl _) _
            have c0 : A.cell? ⟨ba, 0, none⟩ = some (.int .i64 yk) := by rw [← hA]; exact cell_at hba rfl
            have c1' : A.cell? ⟨ba, 1, none⟩ = some (.int .i64 yp) := by rw [← hA]; exact cell_at hba rfl
            have hTH := hidP (hT.below bA)
            clear hX hT bA
            go_wp2_with (rw [hA])
            clear hA hba
            go_loop [5, 10] (fun s5 s => ∃ j : Nat, 1 ≤ j ∧ j ≤ 7 ∧ s5 = .int .i64 c ∧ s = .int .i64 j ∧ Hid (∀ i, 1 ≤ i → i < j → ls i = [])) (fun _ s => 8 - (intOf s).toNat)
            case atStart => exact ⟨1, Nat.le_refl _, by omega, by first | rfl | (congr 1; omega) | go_num, rfl, hidP (fun i h1 h2 => by omega)⟩
            case round =>
              obtain ⟨j, j1, j7, rfl, rfl, hb⟩ := hrel
              by_cases hj6 : j ≤ 6
              · have hj6I : (j : Int) ≤ 6 := by omega
                have hj7 : j < 7 := by omega
                obtain ⟨cj, fj, isj⟩ := hTH.out.row hj7
                rcases hr : ls j with _ | ⟨x, r⟩
                · rw [hr] at isj
                  obtain ⟨p, cc, hv⟩ := isj.shape
                  rw [hv, List.length_nil] at cj
                  have hb' : Hid (∀ i, 1 ≤ i → i < j + 1 → ls i = []) := fun i h1 h2 => by
                    by_cases e : i = j
                    · rw [e]; exact hr
                    · exact hb.out i h1 (by omega)
                  clear hv isj hr hb fj
                  go_wp2_with fail
                  go_round
                  case rel => exact ⟨j + 1, by omega, by omega, by first | rfl | (congr 1; omega) | go_num, by go_num, hb'⟩
                  case measure => simp [intOf]; omega
                · obtain ⟨e1, e2, _⟩ := hTH.out.hit j1 hj6 hr hb.out
                  subst e1
                  subst e2
                  rw [hr] at isj
                  obtain ⟨g, o1, cap1, dv, hv, hcx, hrun, hd, hnb, p', l', c', hdv⟩ := isj.cut1
                  obtain ⟨rl, hrl⟩ : ∃ rl, r.length + 1 = rl := ⟨_, rfl⟩
                  rw [hdv, hrl] at hrun
                  have cj' := cj
                  rw [hv, hrl] at cj
                  have fin : Hid (∀ nq, ∃ V2, (A.drewN nq).setCell ⟨a7, j, none⟩ (.slice p' l' c') = V2 ∧ KS w lb a7 c1 (i + 1) V2) := fun nq => by
                    have hT2 := hTH.out.below (below_drewN (Below.refl _ _) nq)
                    obtain ⟨_, _, h3⟩ := hT2.hit j1 hj6 hr hb.out
                    obtain ⟨_, _, isj2⟩ := hT2.row hj7
                    rw [hr] at isj2
                    exact ⟨_, rfl, h3 _ _ (hdv ▸ hd.mv (E := fun _ => False) (Mv.below (below_drewN (Below.refl _ _) nq)) (fun _ _ h => h)) (by rw [← hdv]; exact hnb) rfl⟩
                  have hrl0 : (0 : Int) < (rl : Int) := by omega
                  have hrl1 : 0 < rl := by omega
                  clear hv hr hdv hd hnb isj hb cj' hrl hTH
                  go_wp2_with fail
                  go_quiet (fail)
                  obtain ⟨V2, hV2, hS2⟩ := fin.out nq
                  have hL := hidP hS2.len
                  have hS2H := hidP hS2
                  clear fin hS2
                  go_wp2_with (rw [hV2])
                  refine hL.out.mono ?_
                  rintro e V3 ⟨rfl, rfl⟩
                  go_wp2_with fail
                  go_roundw
                  case rel => exact ⟨i + 1, c1, by omega, by omega, by go_num, by go_num, hS2H⟩
                  case measure => simp [intOf]; omega
              · exact (hTH.out.never fun i h1 h2 => hb.out i h1 (by omega)).elim
      · have hL := hidP hS.out.len
        have fin := hidP hS.out.w
        clear hS
        go_wp2_with fail
        refine hL.out.mono ?_
        rintro e V1 ⟨rfl, rfl⟩
        go_wp2_with fail
        go_ret
        exact ⟨rfl, fin.out⟩
end Go.Proofs.YtjcdjkfnmobhkaaGreat
