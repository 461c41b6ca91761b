/- The reference's table in memory: an owned row. New. -/
import Derived.Test.YtcikjnifkoagpaaRP3
import Derived.Test.YtcikjnifkoagpaaRZ
namespace Go.Proofs.Ytcikjnifkoagpaa
open Go.RowKit Go.Shelf Go.Lib
def reC (p : Pr) : List Value := [.int .i64 p.pid, .int .i64 p.par, .string p.grp, .bool p.zom, .int .i64 p.st, .string p.cmd, .bool p.term, .bool p.kill]
def reF (l : Ps) : List Value := l.flatMap reC
theorem reC_len (p : Pr) : (reC p).length = 8 := rfl
theorem reF_len (l : Ps) : (reF l).length = l.length * 8 := by
  induction l with
  | nil => rfl
  | cons p r ih => simp only [reF, List.flatMap_cons, List.length_append] at ih ⊢; rw [ih, reC_len]; simp only [List.length_cons]; omega
theorem reF_app (a b : Ps) : reF (a ++ b) = reF a ++ reF b := by simp [reF]
theorem reF_at : ∀ {l : Ps} {i : Nat} {p : Pr}, l[i]? = some p → ∀ q, q < 8 → (reF l)[i * 8 + q]? = (reC p)[q]?
  | x :: r, 0, p, h, q, hq => by
    simp at h
    subst h
    show (reC x ++ reF r)[0 * 8 + q]? = _
    rw [Nat.zero_mul, Nat.zero_add, List.getElem?_append_left (by rw [reC_len]; exact hq)]
  | x :: r, i + 1, p, h, q, hq => by
    show (reC x ++ reF r)[(i + 1) * 8 + q]? = _
    rw [List.getElem?_append_right (by rw [reC_len]; omega), reC_len, show (i + 1) * 8 + q - 8 = i * 8 + q by omega]
    exact reF_at (by simpa using h) q hq
/-- The reference's table: its processes in a row of its own. -/
structure RO (W : World) (b g cap : Nat) (room last : Int) (l : Ps) : Prop where
  c0 : W.cell? ⟨b, 0, none⟩ = some (.slice (some ⟨g, 0, none⟩) l.length cap)
  c1 : W.cell? ⟨b, 1, none⟩ = some (.int .i64 room)
  c2 : W.cell? ⟨b, 2, none⟩ = some (.int .i64 last)
  fz : ∀ j, W.frozen? ⟨b, j, none⟩ = false
  ow : W.ownsRow 0 59 8 (.slice (some ⟨g, 0, none⟩) l.length cap) l.length (reF l)
  ne : b ≠ g
  len : l.length ≤ 1000
theorem RO.at {W : World} {b g cap : Nat} {room last : Int} {l : Ps} (h : RO W b g cap room last l) {i : Nat} {p : Pr} (hp : l[i]? = some p) {q : Nat} {v : Value} (hq : (reC p)[q]? = some v) : W.cell? ⟨g, i * 8 + q, none⟩ = some v := by
  have hq8 : q < 8 := by have := (List.getElem?_eq_some_iff.1 hq).1; rwa [reC_len] at this
  have := h.ow.cells (g := g) rfl (i * 8 + q) v (by rw [reF_at hp q hq8]; exact hq)
  rw [Addr.add_lit, Nat.zero_add] at this
  exact this
theorem RO.rt {W : World} {b g cap : Nat} {room last : Int} {l : Ps} (h : RO W b g cap room last l) : RT W b g 0 cap room last l :=
  ⟨h.c0, h.c1, h.c2, fun i p hp => by have := h.at hp (q := 0) rfl; simpa using this, fun i p hp => by have := h.at hp (q := 1) rfl; simpa using this, fun i p hp => by have := h.at hp (q := 2) rfl; simpa using this, fun i p hp => by have := h.at hp (q := 3) rfl; simpa using this, fun i p hp => by have := h.at hp (q := 4) rfl; simpa using this, fun i p hp => by have := h.at hp (q := 5) rfl; simpa using this, fun i p hp => by have := h.at hp (q := 6) rfl; simpa using this, fun i p hp => by have := h.at hp (q := 7) rfl; simpa using this, by have := h.len; omega⟩
theorem RO.ltb {W : World} {b g cap : Nat} {room last : Int} {l : Ps} (h : RO W b g cap room last l) : b < W.heap.size := cell_lt h.c0
theorem RO.ltg {W : World} {b g cap : Nat} {room last : Int} {l : Ps} (h : RO W b g cap room last l) : g < W.heap.size := (h.ow.lt g rfl).2
theorem RO.mv {W W' : World} {b g cap : Nat} {room last : Int} {l : Ps} {E : Nat → Prop} (h : RO W b g cap room last l) (m : Mv E W W') (hb : ¬ E b) (hg : ¬ E g) : RO W' b g cap room last l :=
  ⟨m.cell (a := ⟨b, 0, none⟩) hb h.c0, m.cell (a := ⟨b, 1, none⟩) hb h.c1, m.cell (a := ⟨b, 2, none⟩) hb h.c2, fun j => (m.froz (a := ⟨b, j, none⟩) hb h.ltb).trans (h.fz j), own_mv h.ow m (fun k hk e => by cases hk; exact hg e), h.ne, h.len⟩
theorem RO.below {W W' : World} {b g cap : Nat} {room last : Int} {l : Ps} (h : RO W b g cap room last l) (k : Below W.heap.size W W') : RO W' b g cap room last l := h.mv (E := fun _ => False) (Mv.below k) (fun h => h) (fun h => h)
/-- From a table to a table. -/
structure Rg (b g : Nat) (W : World) (g' cap' : Nat) (room last : Int) (l : Ps) (W' : World) : Prop where
  r : RO W' b g' cap' room last l
  mv : Mv (fun k => k = b ∨ k = g) W W'
  gr : g' = g ∨ W.heap.size ≤ g'
set_option maxRecDepth 100000 in
set_option maxHeartbeats 2000000 in
theorem rnew_any (r : Int) (w : World) :
    Calls Try.prog 6 #[.int .i64 r] w fun e w' => ∃ b g, e = .returned (.pointer (some ⟨b, 0, none⟩)) ∧ w.heap.size ≤ b ∧ w.heap.size ≤ g ∧ RO w' b g 1 (roomOf r) 1 [one] ∧ Below w.heap.size w w' := by
  have fin : Hid (∀ q, q = roomOf r → RO ((w.alloc (.cells #[.int .i64 1, .int .i64 0, .string ⟨#[]⟩, .bool false, .int .i64 0, .string ⟨#[]⟩, .bool false, .bool false] 59)).alloc (.cells #[.slice (some ⟨w.heap.size, 0, none⟩) 1 1, .int .i64 q, .int .i64 1] 62)) (w.heap.size + 1) w.heap.size 1 (roomOf r) 1 [one] ∧ Below w.heap.size w ((w.alloc (.cells #[.int .i64 1, .int .i64 0, .string ⟨#[]⟩, .bool false, .int .i64 0, .string ⟨#[]⟩, .bool false, .bool false] 59)).alloc (.cells #[.slice (some ⟨w.heap.size, 0, none⟩) 1 1, .int .i64 q, .int .i64 1] 62))) := by
    rintro q rfl
    have s1 : (w.alloc (.cells #[.int .i64 1, .int .i64 0, .string ⟨#[]⟩, .bool false, .int .i64 0, .string ⟨#[]⟩, .bool false, .bool false] 59)).heap.size = w.heap.size + 1 := by simp
    refine ⟨⟨cell_at s1 rfl, cell_at s1 rfl, cell_at s1 rfl, fun j => froz_new s1, ⟨rfl, .inr ⟨w.heap.size, 1, #[.int .i64 1, .int .i64 0, .string ⟨#[]⟩, .bool false, .int .i64 0, .string ⟨#[]⟩, .bool false, .bool false], rfl, Nat.zero_le _, ?_, by simp, by unfold maxLen; simp, rfl, rfl⟩⟩, by omega, by simp⟩, ((Below.refl _ _).alloc (Nat.le_refl _) _).alloc (by simp) _⟩
    rw [Below.heap_alloc _ _ _ (by simp)]
    exact World.alloc_heap_new _ _
  go_enter Try.func6, Try.ntmps6
  go_wp2_with fail
  all_goals go_ret
  all_goals refine ⟨w.heap.size + 1, rfl, by omega, w.heap.size, Nat.le_refl _, fin.out _ ?_⟩
  all_goals unfold roomOf
  all_goals omega
end Go.Proofs.Ytcikjnifkoagpaa
