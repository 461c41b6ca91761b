import Derived.Test.YtdcidlgmnnaahaaGreatBaf
import Derived.Test.YtdcidlgmnnaahaaGreatBam
import Derived.Laws.EntriesVeiled
/- A loop in memory; New, Len, Push. -/
namespace Go.Proofs.YtdcidlgmnnaahaaGreat
open Go.RowKit Go.Shelf Go.Lib
attribute [local go_sem] Oper.semAt_some
def XL (n : Int) (mv : Value) : Nat → Option Value := fun j => if j = 4 then some (.int .i64 n) else if j = 5 then some mv else none
abbrev fE : Value := .func (.func 26) #[] #[]
/-- The queue of a loop where n events were pushed: the zero one until one is. -/
def nbq (n : Nat) (mv : Value) : NB := ⟨26, XL n mv, if n = 0 then .nilFunc else fE⟩
theorem bfq {n : Nat} (h : n ≠ 0) (mv : Value) : Qw.Bf (nbq n mv) keyW := by
  unfold nbq
  rw [if_neg h]
  exact bfW _
theorem Qu.xt {nb : NB} {w : World} {q : Nat} {E B : Nat → Prop} {L : List Wt} {n : Nat} (h : Qw.Qu nb keyW w q E B L n) : Xt w q nb.X := by
  obtain ⟨v, xs, F, L', a1, _⟩ := h
  exact a1.xt
theorem Qu.q {nb : NB} {w : World} {q : Nat} {E B : Nat → Prop} {L : List Wt} {n : Nat} (h : Qw.Qu nb keyW w q E B L n) : E q ∧ (∀ k, B k → ¬ E k) ∧ L.length ≤ n ∧ n ≤ 200000 := by
  obtain ⟨v, xs, F, L', a1, _, _, a4, a5, a6⟩ := h
  refine ⟨(a6 q).2 (.inl rfl), fun k hk e => ?_, a4, a5⟩
  rcases (a6 k).1 e with s | s
  · exact (a1.nB k hk).1 s
  · exact (a1.nB k hk).2 s
/-- What lies behind the queue may turn. -/
theorem Qu.setX {nb : NB} {w : World} {q : Nat} {E B : Nat → Prop} {L : List Wt} {n : Nat} (h : Qw.Qu nb keyW w q E B L n) {j : Nat} (hj : 4 ≤ j) {v0 : Value} (hc : w.cell? ⟨q, j, none⟩ = some v0) (v : Value) (X' : Nat → Option Value) (hX : ∀ i, 4 ≤ i → X' i = if i = j then some v else nb.X i) :
    Qw.Qu ⟨nb.n, X', nb.f⟩ keyW (w.setCell ⟨q, j, none⟩ v) q E B L n ∧ Mv (fun k => k = q) w (w.setCell ⟨q, j, none⟩ v) := by
  obtain ⟨vv, xs, F, L', a1, a2, a3, a4, a5, a6⟩ := h
  have k := Cv.one w q j v
  have lt := a1.lt
  have m : Mv (fun k => k = q) w (w.setCell ⟨q, j, none⟩ v) := k.mv.mono fun k _ s => by obtain ⟨j, s, _⟩ := s; exact s
  refine ⟨⟨vv, xs, F, L', ⟨k.cell (by omega) a1.c0, k.cell (by omega) a1.c1, k.cell (by omega) a1.c2, k.cell (by omega) a1.c3, (k.fr q 1 lt).trans a1.f1, (k.fr q 2 lt).trans a1.f2, (k.fr q 3 lt).trans a1.f3, a1.sv.mv m (fun k hk e => a1.nq (e ▸ hk)), Qw.RF.mv m (fun k hk e => (a1.nB k hk).1 e) _ _ a1.rf, a1.nq, a1.nB, fun k hk => Nat.lt_of_lt_of_le (a1.lo k hk) m.size, a1.len, fun i hi => ?_, fun i hi => (k.fr q i lt).trans (a1.xt.2 i hi)⟩, a2, a3, a4, a5, a6⟩, m⟩
  show _ = X' i
  rw [hX i hi]
  by_cases e : i = j
  · subst e; rw [if_pos rfl]; exact World.cell?_setCell_same _ _ _ hc
  · rw [if_neg e]; exact (k.ce q i lt (fun s => e s.2)).trans (a1.xt.1 i hi)
/-- An empty queue, by its cells. -/
theorem Qu.anew {nb : NB} {w : World} {q : Nat} (c0 : w.cell? ⟨q, 0, none⟩ = some nb.f) (c1 : w.cell? ⟨q, 1, none⟩ = some (.slice none 0 0)) (c2 : w.cell? ⟨q, 2, none⟩ = some (.int .i64 0)) (c3 : w.cell? ⟨q, 3, none⟩ = some (.int .i64 0)) (f : ∀ j, 1 ≤ j → j ≤ 3 → w.frozen? ⟨q, j, none⟩ = false) (x : Xt w q nb.X) :
    Qw.Qu nb keyW w q (fun k => k = q) (fun _ => False) [] 0 :=
  ⟨.slice none 0 0, [], [], [], ⟨c0, c1, c2, c3, f 1 (by omega) (by omega), f 2 (by omega) (by omega), f 3 (by omega) (by omega), .inl ⟨rfl, rfl⟩, trivial, (fun e => by cases e), (fun _ h => h.elim), (fun _ h => h.elim), by simp, x⟩, QI.nil keyW 0, rfl, Nat.le_refl _, by omega, fun k => ⟨.inl, fun h => h.elim id (fun e => by cases e)⟩⟩
/-- A loop: what waits (n were pushed), what is set. -/
def Lo (w : World) (lb : Nat) (E : Nat → Prop) (L : List Wt) (n : Nat) (T : List Du) : Prop :=
  ∃ Eq B mv, Qw.Qu (nbq n mv) keyW w lb Eq B L n ∧ (n = 0 → w.frozen? ⟨lb, 0, none⟩ = false) ∧ TM w mv T ∧ Ts T ∧ (∀ k, E k ↔ (Eq k ∨ B k ∨ mbk mv = some k)) ∧ (∀ k, mbk mv = some k → ¬ Eq k ∧ ¬ B k) ∧ (∀ x ∈ L, x.n < n) ∧ T.length ≤ 100000
theorem Lo.lt {w : World} {lb : Nat} {E : Nat → Prop} {L : List Wt} {n : Nat} {T : List Du} (h : Lo w lb E L n T) : (∀ k, E k → k < w.heap.size) ∧ E lb := by
  obtain ⟨Eq, B, mv, h1, h2, h3, h4, h5, h6, h7⟩ := h
  refine ⟨fun k hk => ?_, (h5 lb).2 (.inl (Qu.q h1).1)⟩
  rcases (h5 k).1 hk with s | s | s
  · exact h1.lt.1 k s
  · exact h1.lt.2 k s
  · exact h3.lt s
theorem Lo.mv {D : Nat → Prop} {w V : World} {lb : Nat} {E : Nat → Prop} {L : List Wt} {n : Nat} {T : List Du} (h : Lo w lb E L n T) (m : Mv D w V) (hD : ∀ k, E k → ¬ D k) : Lo V lb E L n T := by
  have lt := h.lt
  obtain ⟨Eq, B, mv, h1, h2, h3, h4, h5, h6, h7⟩ := h
  exact ⟨Eq, B, mv, h1.mv m (fun k hk => hD k ((h5 k).2 (.inl hk))) (fun k hk => hD k ((h5 k).2 (.inr (.inl hk)))), fun e => (m.froz (a := ⟨lb, 0, none⟩) (hD lb lt.2) (lt.1 lb lt.2)).trans (h2 e), h3.mv m (fun k hk => hD k ((h5 k).2 (.inr (.inr hk)))), h4, h5, h6, h7⟩
theorem Lo.below {w V : World} {lb : Nat} {E : Nat → Prop} {L : List Wt} {n : Nat} {T : List Du} (h : Lo w lb E L n T) (b : Below w.heap.size w V) : Lo V lb E L n T := h.mv (D := fun _ => False) (Mv.below b) (fun _ _ h => h)
theorem Lo.ts {w : World} {lb : Nat} {E : Nat → Prop} {L : List Wt} {n : Nat} {T : List Du} (h : Lo w lb E L n T) : Ts T := by
  obtain ⟨Eq, B, mv, h1, h2, h3, h4, _⟩ := h
  exact h4
/-- From one state to another one. -/
def Lg (w : World) (lb : Nat) (E : Nat → Prop) (L : List Wt) (n : Nat) (T : List Du) (V : World) : Prop := ∃ E', Lo V lb E' L n T ∧ Mv E w V ∧ Gr E w E'
theorem Lg.below {w w0 V : World} {lb : Nat} {E : Nat → Prop} {L : List Wt} {n : Nat} {T : List Du} (b : Below w.heap.size w w0) (h : Lg w0 lb E L n T V) : Lg w lb E L n T V := by
  obtain ⟨E', h1, h2, h3⟩ := h
  exact ⟨E', h1, (Mv.below b).trans' h2, Gr.mono b.size h3⟩
theorem Lo.same {w V : World} {lb : Nat} {E : Nat → Prop} {L : List Wt} {n : Nat} {T : List Du} (h : Lo w lb E L n T) (b : Below w.heap.size w V) : Lg w lb E L n T V := ⟨E, h.below b, Mv.below b, Gr.refl _ _⟩
def lp (b : Nat) : Value := .pointer (some ⟨b, 0, none⟩)
set_option maxRecDepth 100000 in
set_option maxHeartbeats 1000000 in
theorem newl_any (w : World) : Calls Tryz.prog 5 #[] w fun e V => e = .returned (lp w.heap.size) ∧ Lo V w.heap.size (fun k => k = w.heap.size) [] 0 [] ∧ Below w.heap.size w V := by
  obtain ⟨V, hV⟩ : ∃ V, w.alloc (.cells #[.nilFunc, .slice none 0 0, .int .i64 0, .int .i64 0, .int .i64 0, .map none] 57) = V := ⟨_, rfl⟩
  have c : ∀ j u, #[Value.nilFunc, .slice none 0 0, .int .i64 0, .int .i64 0, .int .i64 0, .map none][j]? = some u → V.cell? ⟨w.heap.size, j, none⟩ = some u := fun j u hj => by rw [← hV]; exact cell_at rfl hj
  have f : ∀ j, V.frozen? ⟨w.heap.size, j, none⟩ = false := fun j => by rw [← hV]; exact froz_new rfl
  have fin : Hid (Lo V w.heap.size (fun k => k = w.heap.size) [] 0 [] ∧ Below w.heap.size w V) := by
    refine ⟨⟨fun k => k = w.heap.size, fun _ => False, .map none, Qu.anew (c 0 _ rfl) (c 1 _ rfl) (c 2 _ rfl) (c 3 _ rfl) (fun j _ _ => f j) ⟨fun j hj => ?_, fun j _ => f j⟩, fun _ => f 0, .inl ⟨rfl, rfl⟩, Ts.nil, fun k => ⟨.inl, fun h => h.elim id (fun h => h.elim False.elim (fun h => by cases h))⟩, (fun _ h => by cases h), (fun _ h => by cases h), by simp⟩, by rw [← hV]; exact (Below.refl _ _).alloc (Nat.le_refl _) _⟩
    match j, hj with
    | 4, _ => exact c 4 _ rfl
    | 5, _ => exact c 5 _ rfl
    | j + 6, _ => rw [← hV]; exact cell_new_none rfl (by simp)
  unfold lp
  clear c f
  go_enter Tryz.func5, Tryz.ntmps5
  go_wp2_with (rw [hV])
  go_ret
  exact ⟨rfl, fin.out⟩
set_option maxRecDepth 100000 in
set_option maxHeartbeats 1000000 in
theorem lenl_any {w : World} {lb : Nat} {E : Nat → Prop} {L : List Wt} {n : Nat} {T : List Du} (h : Lo w lb E L n T) : Calls Tryz.prog 17 #[lp lb] w fun e V => e = .returned (.int .i64 L.length) ∧ V = w := by
  obtain ⟨Eq, B, mv, h1, _⟩ := h
  have hL := Qw.len_any h1
  unfold Qw.qp at hL
  unfold lp
  clear h1
  go_enter Tryz.func17, Tryz.ntmps17
  go_wp2_with fail
  refine hL.mono ?_
  rintro e V ⟨rfl, rfl⟩
  go_wp2_with fail
  go_ret
  exact ⟨rfl, rfl⟩
end Go.Proofs.YtdcidlgmnnaahaaGreat
/- Push on a loop. -/
namespace Go.Proofs.YtdcidlgmnnaahaaGreat
open Go.RowKit Go.Shelf Go.Lib
attribute [local go_sem] Oper.semAt_some
theorem Lg.step {w W V : World} {lb : Nat} {E : Nat → Prop} {L : List Wt} {n : Nat} {T : List Du} (m : Mv E w W) (h : Lg W lb E L n T V) : Lg w lb E L n T V := by
  obtain ⟨E', h1, h2, h3⟩ := h
  exact ⟨E', h1, m.trans' h2, Gr.mono m.size h3⟩
def mkW (k p s : Int) (u x : ByteArray) (n : Nat) (h : n < 100000) : Wt := ⟨k, p, s, u, x, n, by omega⟩
theorem qpush {W : World} {lb : Nat} {E Eq B : Nat → Prop} {L : List Wt} {n : Nat} {T : List Du} {mv : Value} (h1 : Qw.Qu ⟨26, XL n mv, fE⟩ keyW W lb Eq B L n) (h3 : TM W mv T) (h4 : Ts T) (h5 : ∀ k, E k ↔ (Eq k ∨ B k ∨ mbk mv = some k)) (h6 : ∀ k, mbk mv = some k → ¬ Eq k ∧ ¬ B k) (h7 : ∀ x ∈ L, x.n < n) (h8 : T.length ≤ 100000) (hn : n < 100000) (x : Wt) (hx : x.n = n) :
    Calls Tryz.prog 27 #[Qw.qp lb, Qw.ev x] W fun e V => e = .returned (.tuple #[]) ∧ V.cell? ⟨lb, 4, none⟩ = some (.int .i64 n) ∧ V.frozen? ⟨lb, 4, none⟩ = false ∧ ∀ V2, V.setCell ⟨lb, 4, none⟩ (.int .i64 ((n : Int) + 1)) = V2 → Lg W lb E (insA keyW x L) (n + 1) T V2 := by
  have lt := h1.lt
  have q0 := (Qu.q h1).1
  refine (Qw.push_any (bfW _) h1 (by omega) x).mono ?_
  rintro e V ⟨rfl, E', B', u1, m, g, gb⟩
  have X1 := Qu.xt u1
  have c4 : V.cell? ⟨lb, 4, none⟩ = some (.int .i64 n) := X1.1 4 (by omega)
  refine ⟨rfl, c4, X1.2 4 (by omega), fun V2 hV2 => ?_⟩
  obtain ⟨u2, m2⟩ := Qu.setX u1 (j := 4) (by omega) c4 (.int .i64 ((n : Int) + 1)) (XL ((n + 1 : Nat) : Int) mv) (fun i hi => by
    unfold XL
    by_cases e : i = 4
    · subst e; simp
    · simp [e])
  rw [hV2] at u2 m2
  have q2 := Qu.q u2
  have lm : ∀ k, mbk mv = some k → k < W.heap.size := fun k hk => h3.lt hk
  have ne : ∀ k, mbk mv = some k → ¬ Eq k := fun k hk => (h6 k hk).1
  have nq : ∀ k, mbk mv = some k → ¬ k = lb := fun k hk e => (h6 k hk).1 (e ▸ q0)
  refine ⟨fun k => E' k ∨ B' k ∨ mbk mv = some k, ⟨E', B', mv, ?_, fun e => by omega, (h3.mv m ne).mv m2 nq, h4, fun k => Iff.rfl, fun k hk => ⟨fun e => ?_, fun e => ?_⟩, fun y hy => ?_, h8⟩, ?_, fun k hk => ?_⟩
  · unfold nbq
    rw [if_neg (by omega)]
    exact u2
  · rcases g k e with s | s
    · exact ne k hk s
    · have := lm k hk; omega
  · rcases gb k e with s | s
    · exact (h6 k hk).2 s
    · have := lm k hk; omega
  · rcases (insA_mem keyW x y L).1 hy with e | e
    · rw [e, hx]; omega
    · have := h7 y e; omega
  · exact (m.mono fun k _ e => (h5 k).2 (.inl e)).trans (E' := fun k => k = lb) (fun k e => .inl ((h5 k).2 (.inl (e ▸ q0)))) m2
  · rcases hk with e | e | e
    · exact (g k e).imp (fun s => (h5 k).2 (.inl s)) id
    · exact (gb k e).imp (fun s => (h5 k).2 (.inr (.inl s))) id
    · exact .inl ((h5 k).2 (.inr (.inr e)))
set_option maxRecDepth 100000 in
set_option maxHeartbeats 1000000 in
theorem newq_any (w : World) : Calls Tryz.prog 25 #[fE] w fun e V => e = .returned (Qw.qp w.heap.size) ∧ V = w.alloc (.cells #[fE, .slice none 0 0, .int .i64 0, .int .i64 0] 54) := by
  unfold fE Qw.qp
  go_enter Tryz.func25, Tryz.ntmps25
  go_wp2_with fail
  go_ret
  exact ⟨rfl, rfl⟩
set_option maxRecDepth 100000 in
set_option maxHeartbeats 1000000 in
theorem pushl_bad {w : World} {lb : Nat} {E : Nat → Prop} {L : List Wt} {n : Nat} {T : List Du} (h : Lo w lb E L n T) (k p s : Int) (u x : ByteArray) (hk : k < 1 ∨ 6 < k) :
    Calls Tryz.prog 6 #[lp lb, .agg #[.int .i64 k, .int .i64 p, .int .i64 s, .string u, .string x]] w fun e V => e = .returned (.int .i64 140) ∧ Lg w lb E L n T V := by
  obtain ⟨V, hV⟩ : ∃ V, w.alloc (.cells #[.int .i64 k, .int .i64 p, .int .i64 s, .string u, .string x] 32) = V := ⟨_, rfl⟩
  have fin := hidP (h.same (V := V) (by rw [← hV]; exact (Below.refl _ _).alloc (Nat.le_refl _) _))
  have x0 : V.cell? ⟨w.heap.size, 0, none⟩ = some (.int .i64 k) := by rw [← hV]; exact cell_at rfl rfl
  clear h
  rcases hk with hk | hk
  · unfold lp
    go_enter Tryz.func6, Tryz.ntmps6
    go_wp2_with fail
    go_ret
    exact ⟨rfl, fin.out⟩
  · have h1 : ¬ k < 1 := by omega
    have h2 : decide (k < 1) = false := by simpa using h1
    unfold lp
    go_enter Tryz.func6, Tryz.ntmps6
    go_wp2_with fail
    go_ret
    exact ⟨rfl, fin.out⟩
end Go.Proofs.YtdcidlgmnnaahaaGreat
/- Next on a loop. -/
namespace Go.Proofs.YtdcidlgmnnaahaaGreat
open Go.RowKit Go.Shelf Go.Lib
attribute [local go_sem] Oper.semAt_some
theorem popl_none {w : World} {lb : Nat} {E : Nat → Prop} {n : Nat} {T : List Du} (h : Lo w lb E [] n T) :
    Calls Tryz.prog 28 #[lp lb] w fun e V => e = .returned (.tuple #[.agg #[.int .i64 0, .int .i64 0, .int .i64 0, .string ⟨#[]⟩, .string ⟨#[]⟩, .int .i64 0], .int .i64 130]) ∧ Below w.heap.size w V := by
  obtain ⟨Eq, B, mv, h1, _⟩ := h
  exact Qw.pop_none h1
theorem popl_some {w : World} {lb : Nat} {E : Nat → Prop} {y : Wt} {L : List Wt} {n : Nat} {T : List Du} (h : Lo w lb E (y :: L) n T) :
    Calls Tryz.prog 28 #[lp lb] w fun e V => e = .returned (.tuple #[.agg #[.int .i64 y.k, .int .i64 y.p, .int .i64 y.s, .string y.u, .string y.x, .int .i64 y.n], .int .i64 0]) ∧ Lg w lb E L n T V := by
  obtain ⟨Eq, B, mv, h1, h2, h3, h4, h5, h6, h7, h8⟩ := h
  have hn0 : n ≠ 0 := by have := (Qu.q h1).2.2.1; rw [List.length_cons] at this; omega
  refine (Qw.pop_some (bfq hn0 mv) h1).mono ?_
  rintro e V ⟨rfl, E', B', u1, m, g, gb⟩
  have lm : ∀ k, mbk mv = some k → k < w.heap.size := fun k hk => h3.lt hk
  have ne : ∀ k, mbk mv = some k → ¬ Eq k := fun k hk => (h6 k hk).1
  refine ⟨rfl, fun k => E' k ∨ B' k ∨ mbk mv = some k, ⟨E', B', mv, u1, fun e => absurd e hn0, h3.mv m ne, h4, fun k => Iff.rfl, fun k hk => ⟨fun e => ?_, fun e => ?_⟩, fun y hy => h7 y (List.mem_cons_of_mem _ hy), h8⟩, m.mono fun k _ e => (h5 k).2 (.inl e), fun k hk => ?_⟩
  · rcases g k e with s | s
    · exact ne k hk s
    · have := lm k hk; omega
  · rcases gb k e with s | s
    · exact (h6 k hk).2 s
    · have := lm k hk; omega
  · rcases hk with e | e | e
    · exact (g k e).imp (fun s => (h5 k).2 (.inl s)) id
    · exact (gb k e).imp (fun s => (h5 k).2 (.inr (.inl s))) id
    · exact .inl ((h5 k).2 (.inr (.inr e)))
/-- Boxes beside may turn. -/
theorem Lg.beside {w w0 V U : World} {lb : Nat} {E : Nat → Prop} {L : List Wt} {n : Nat} {T : List Du} {D : Nat → Prop} (b : Below w.heap.size w w0) (hE : ∀ k, E k → k < w.heap.size) (h : Lg w0 lb E L n T V) (m : Mv D V U) (hD : ∀ k, D k → w.heap.size ≤ k ∧ (k < w0.heap.size ∨ V.heap.size ≤ k)) : Lg w lb E L n T U := by
  obtain ⟨E', h1, h2, h3⟩ := h
  refine ⟨E', h1.mv m (fun k hk d => ?_), ((Mv.below b).trans' h2).trans (E' := D) (fun k d => .inr (hD k d).1) m, Gr.mono b.size h3⟩
  have := hD k d
  have l1 := h1.lt.1 k hk
  rcases h3 k hk with s | s
  · have := hE k s; omega
  · omega
set_option maxRecDepth 100000 in
set_option maxHeartbeats 4000000 in
theorem nextl_some {w : World} {lb : Nat} {E : Nat → Prop} {y : Wt} {L : List Wt} {n : Nat} {T : List Du} (h : Lo w lb E (y :: L) n T) :
    Calls Tryz.prog 8 #[lp lb] w fun e V => e = .returned (.tuple #[.agg #[.int .i64 y.k, .int .i64 y.p, .int .i64 y.s, .string y.u, .string y.x], .bool true]) ∧ Lg w lb E L n T V := by
  obtain ⟨N, hN⟩ : ∃ N, w.heap.size = N := ⟨_, rfl⟩
  obtain ⟨W0, hW0⟩ : ∃ W0, w.alloc (.cells #[.int .i64 0, .int .i64 0, .int .i64 0, .string ⟨#[]⟩, .string ⟨#[]⟩] 32) = W0 := ⟨_, rfl⟩
  have b0 : Below w.heap.size w W0 := by rw [← hW0]; exact (Below.refl _ _).alloc (Nat.le_refl _) _
  have s0 : W0.heap.size = N + 1 := by rw [← hW0]; simp [hN]
  have bx : ∀ j v, #[.int .i64 0, .int .i64 0, .int .i64 0, .string ⟨#[]⟩, .string ⟨#[]⟩][j]? = some v → W0.cell? ⟨N, j, none⟩ = some v := fun j v hj => by rw [← hW0]; exact cell_at hN hj
  have fx : ∀ j, W0.frozen? ⟨N, j, none⟩ = false := fun j => by rw [← hW0]; exact froz_new hN
  have lE := h.lt.1
  have hP := hidP (popl_some (h.below b0))
  have fin : Hid (∀ V1, Lg W0 lb E L n T V1 → ∃ V2 V3, V1.alloc (.cells #[.int .i64 y.k, .int .i64 y.p, .int .i64 y.s, .string y.u, .string y.x, .int .i64 y.n] 61) = V2 ∧ (V2.cell? ⟨V1.heap.size, 0, none⟩ = some (.int .i64 y.k) ∧ V2.cell? ⟨V1.heap.size, 1, none⟩ = some (.int .i64 y.p) ∧ V2.cell? ⟨V1.heap.size, 2, none⟩ = some (.int .i64 y.s) ∧ V2.cell? ⟨V1.heap.size, 3, none⟩ = some (.string y.u) ∧ V2.cell? ⟨V1.heap.size, 4, none⟩ = some (.string y.x) ∧ V2.cell? ⟨V1.heap.size, 5, none⟩ = some (.int .i64 y.n)) ∧ (V2.cell? ⟨N, 0, none⟩ = some (.int .i64 0) ∧ V2.cell? ⟨N, 1, none⟩ = some (.int .i64 0) ∧ V2.cell? ⟨N, 2, none⟩ = some (.int .i64 0) ∧ V2.cell? ⟨N, 3, none⟩ = some (.string ⟨#[]⟩) ∧ V2.cell? ⟨N, 4, none⟩ = some (.string ⟨#[]⟩)) ∧ (V2.frozen? ⟨N, 0, none⟩ = false ∧ V2.frozen? ⟨N, 1, none⟩ = false ∧ V2.frozen? ⟨N, 2, none⟩ = false ∧ V2.frozen? ⟨N, 3, none⟩ = false ∧ V2.frozen? ⟨N, 4, none⟩ = false) ∧ (((((V2.setCell ⟨N, 0, none⟩ (.int .i64 y.k)).setCell ⟨N, 1, none⟩ (.int .i64 y.p)).setCell ⟨N, 2, none⟩ (.int .i64 y.s)).setCell ⟨N, 3, none⟩ (.string y.u)).setCell ⟨N, 4, none⟩ (.string y.x)) = V3 ∧ (V3.cell? ⟨N, 0, none⟩ = some (.int .i64 y.k) ∧ V3.cell? ⟨N, 1, none⟩ = some (.int .i64 y.p) ∧ V3.cell? ⟨N, 2, none⟩ = some (.int .i64 y.s) ∧ V3.cell? ⟨N, 3, none⟩ = some (.string y.u) ∧ V3.cell? ⟨N, 4, none⟩ = some (.string y.x)) ∧ Lg w lb E L n T V3) := by
    intro V1 hl
    have hlm : Mv E W0 V1 := by obtain ⟨E1, _, m, _⟩ := hl; exact m
    have nE : ¬ E N := fun e => by have := lE N e; omega
    have lN : N < V1.heap.size := by have := hlm.size; omega
    obtain ⟨V2, hV2⟩ : ∃ V2, V1.alloc (.cells #[.int .i64 y.k, .int .i64 y.p, .int .i64 y.s, .string y.u, .string y.x, .int .i64 y.n] 61) = V2 := ⟨_, rfl⟩
    have b2 : Below V1.heap.size V1 V2 := by rw [← hV2]; exact (Below.refl _ _).alloc (Nat.le_refl _) _
    have cy : ∀ j v, #[.int .i64 y.k, .int .i64 y.p, .int .i64 y.s, .string y.u, .string y.x, .int .i64 y.n][j]? = some v → V2.cell? ⟨V1.heap.size, j, none⟩ = some v := fun j v hj => by rw [← hV2]; exact cell_at rfl hj
    have cz : ∀ j v, #[.int .i64 0, .int .i64 0, .int .i64 0, .string ⟨#[]⟩, .string ⟨#[]⟩][j]? = some v → V2.cell? ⟨N, j, none⟩ = some v := fun j v hj => bcell b2 lN (hlm.cell (a := ⟨N, j, none⟩) nE (bx j v hj))
    have cf : ∀ j, V2.frozen? ⟨N, j, none⟩ = false := fun j => (bfroz b2 lN).trans ((hlm.froz (a := ⟨N, j, none⟩) nE (by rw [s0]; exact Nat.lt_succ_self N)).trans (fx j))
    have k := Cv.cells V2 N 0 [.int .i64 y.k, .int .i64 y.p, .int .i64 y.s, .string y.u, .string y.x]
    obtain ⟨V3, hV3⟩ : ∃ V3, (((((V2.setCell ⟨N, 0, none⟩ (.int .i64 y.k)).setCell ⟨N, 1, none⟩ (.int .i64 y.p)).setCell ⟨N, 2, none⟩ (.int .i64 y.s)).setCell ⟨N, 3, none⟩ (.string y.u)).setCell ⟨N, 4, none⟩ (.string y.x)) = V3 := ⟨_, rfl⟩
    have m3 : Mv (fun k => k = N) V2 V3 := by rw [← hV3]; exact k.mv.mono fun k _ s => by obtain ⟨j, s, _⟩ := s; exact s
    refine ⟨V2, V3, hV2, ⟨cy 0 _ rfl, cy 1 _ rfl, cy 2 _ rfl, cy 3 _ rfl, cy 4 _ rfl, cy 5 _ rfl⟩, ⟨cz 0 _ rfl, cz 1 _ rfl, cz 2 _ rfl, cz 3 _ rfl, cz 4 _ rfl⟩, ⟨cf 0, cf 1, cf 2, cf 3, cf 4⟩, hV3, ⟨by rw [← hV3]; exact ((World.cell?_setCell_other _ _ _ _ (by simp)).trans ((World.cell?_setCell_other _ _ _ _ (by simp)).trans ((World.cell?_setCell_other _ _ _ _ (by simp)).trans ((World.cell?_setCell_other _ _ _ _ (by simp)).trans (World.cell?_setCell_same _ _ _ (cz 0 _ rfl)))))), by rw [← hV3]; exact ((World.cell?_setCell_other _ _ _ _ (by simp)).trans ((World.cell?_setCell_other _ _ _ _ (by simp)).trans ((World.cell?_setCell_other _ _ _ _ (by simp)).trans (World.cell?_setCell_same _ _ _ ((World.cell?_setCell_other _ _ _ _ (by simp)).trans (cz 1 _ rfl)))))), by rw [← hV3]; exact ((World.cell?_setCell_other _ _ _ _ (by simp)).trans ((World.cell?_setCell_other _ _ _ _ (by simp)).trans (World.cell?_setCell_same _ _ _ ((World.cell?_setCell_other _ _ _ _ (by simp)).trans ((World.cell?_setCell_other _ _ _ _ (by simp)).trans (cz 2 _ rfl)))))), by rw [← hV3]; exact ((World.cell?_setCell_other _ _ _ _ (by simp)).trans (World.cell?_setCell_same _ _ _ ((World.cell?_setCell_other _ _ _ _ (by simp)).trans ((World.cell?_setCell_other _ _ _ _ (by simp)).trans ((World.cell?_setCell_other _ _ _ _ (by simp)).trans (cz 3 _ rfl)))))), by rw [← hV3]; exact (World.cell?_setCell_same _ _ _ ((World.cell?_setCell_other _ _ _ _ (by simp)).trans ((World.cell?_setCell_other _ _ _ _ (by simp)).trans ((World.cell?_setCell_other _ _ _ _ (by simp)).trans ((World.cell?_setCell_other _ _ _ _ (by simp)).trans (cz 4 _ rfl))))))⟩, ?_⟩
    exact Lg.beside (D := fun k => k = N ∨ V1.heap.size ≤ k) b0 lE hl (((Mv.below b2).trans (E := fun k => k = N ∨ V1.heap.size ≤ k) (E' := fun k => k = N) (fun k e => .inl (.inl e)) m3)) (fun k d => by rcases d with d | d <;> omega)
  clear s0 bx fx lE h b0
  unfold lp at *
  go_enter Tryz.func8, Tryz.ntmps8
  go_wp2_with (rw [hW0])
  refine hP.out.mono ?_
  rintro e V1 ⟨rfl, hl⟩
  obtain ⟨V2, V3, hV2, cy, cz, cf, hV3, c7, hg⟩ := fin.out V1 hl
  have hgH := hidP hg
  clear hg fin hP hl
  go_wp2_with (first | rw [hV2] | rw [hV3])
  refine bodyPost_ret (v := .tuple #[.agg #[.int .i64 y.k, .int .i64 y.p, .int .i64 y.s, .string y.u, .string y.x], .bool true]) (by simp [results, Tryz.results8, go_sem, c7]) rfl ⟨rfl, hgH.out⟩
set_option maxRecDepth 100000 in
set_option maxHeartbeats 4000000 in
theorem nextl_none {w : World} {lb : Nat} {E : Nat → Prop} {n : Nat} {T : List Du} (h : Lo w lb E [] n T) :
    Calls Tryz.prog 8 #[lp lb] w fun e V => e = .returned (.tuple #[.agg #[.int .i64 0, .int .i64 0, .int .i64 0, .string ⟨#[]⟩, .string ⟨#[]⟩], .bool false]) ∧ Below w.heap.size w V := by
  obtain ⟨N, hN⟩ : ∃ N, w.heap.size = N := ⟨_, rfl⟩
  obtain ⟨W0, hW0⟩ : ∃ W0, w.alloc (.cells #[.int .i64 0, .int .i64 0, .int .i64 0, .string ⟨#[]⟩, .string ⟨#[]⟩] 32) = W0 := ⟨_, rfl⟩
  have b0 : Below w.heap.size w W0 := by rw [← hW0]; exact (Below.refl _ _).alloc (Nat.le_refl _) _
  have s0 : W0.heap.size = N + 1 := by rw [← hW0]; simp [hN]
  have bx : ∀ j v, #[.int .i64 0, .int .i64 0, .int .i64 0, .string ⟨#[]⟩, .string ⟨#[]⟩][j]? = some v → W0.cell? ⟨N, j, none⟩ = some v := fun j v hj => by rw [← hW0]; exact cell_at hN hj
  have fx : ∀ j, W0.frozen? ⟨N, j, none⟩ = false := fun j => by rw [← hW0]; exact froz_new hN
  have lE := h.lt.1
  have hP := hidP (popl_none (h.below b0))
  have fin : Hid (∀ V1, Below W0.heap.size W0 V1 → ∃ A0 V2 V3, V1.alloc (.cells #[.int .i64 0, .int .i64 0, .int .i64 0, .string ⟨#[]⟩, .string ⟨#[]⟩, .int .i64 0] 61) = A0 ∧ (A0.cell? ⟨V1.heap.size, 0, none⟩ = some (.int .i64 0) ∧ A0.cell? ⟨V1.heap.size, 1, none⟩ = some (.int .i64 0) ∧ A0.cell? ⟨V1.heap.size, 2, none⟩ = some (.int .i64 0) ∧ A0.cell? ⟨V1.heap.size, 3, none⟩ = some (.string ⟨#[]⟩) ∧ A0.cell? ⟨V1.heap.size, 4, none⟩ = some (.string ⟨#[]⟩) ∧ A0.cell? ⟨V1.heap.size, 5, none⟩ = some (.int .i64 0)) ∧ (A0.frozen? ⟨V1.heap.size, 0, none⟩ = false ∧ A0.frozen? ⟨V1.heap.size, 1, none⟩ = false ∧ A0.frozen? ⟨V1.heap.size, 2, none⟩ = false ∧ A0.frozen? ⟨V1.heap.size, 3, none⟩ = false ∧ A0.frozen? ⟨V1.heap.size, 4, none⟩ = false ∧ A0.frozen? ⟨V1.heap.size, 5, none⟩ = false) ∧ ((((((A0.setCell ⟨V1.heap.size, 0, none⟩ (.int .i64 0)).setCell ⟨V1.heap.size, 1, none⟩ (.int .i64 0)).setCell ⟨V1.heap.size, 2, none⟩ (.int .i64 0)).setCell ⟨V1.heap.size, 3, none⟩ (.string ⟨#[]⟩)).setCell ⟨V1.heap.size, 4, none⟩ (.string ⟨#[]⟩)).setCell ⟨V1.heap.size, 5, none⟩ (.int .i64 0)) = V2 ∧ (V2.cell? ⟨V1.heap.size, 0, none⟩ = some (.int .i64 0) ∧ V2.cell? ⟨V1.heap.size, 1, none⟩ = some (.int .i64 0) ∧ V2.cell? ⟨V1.heap.size, 2, none⟩ = some (.int .i64 0) ∧ V2.cell? ⟨V1.heap.size, 3, none⟩ = some (.string ⟨#[]⟩) ∧ V2.cell? ⟨V1.heap.size, 4, none⟩ = some (.string ⟨#[]⟩) ∧ V2.cell? ⟨V1.heap.size, 5, none⟩ = some (.int .i64 0)) ∧ (V2.cell? ⟨N, 0, none⟩ = some (.int .i64 0) ∧ V2.cell? ⟨N, 1, none⟩ = some (.int .i64 0) ∧ V2.cell? ⟨N, 2, none⟩ = some (.int .i64 0) ∧ V2.cell? ⟨N, 3, none⟩ = some (.string ⟨#[]⟩) ∧ V2.cell? ⟨N, 4, none⟩ = some (.string ⟨#[]⟩)) ∧ (V2.frozen? ⟨N, 0, none⟩ = false ∧ V2.frozen? ⟨N, 1, none⟩ = false ∧ V2.frozen? ⟨N, 2, none⟩ = false ∧ V2.frozen? ⟨N, 3, none⟩ = false ∧ V2.frozen? ⟨N, 4, none⟩ = false) ∧ (((((V2.setCell ⟨N, 0, none⟩ (.int .i64 0)).setCell ⟨N, 1, none⟩ (.int .i64 0)).setCell ⟨N, 2, none⟩ (.int .i64 0)).setCell ⟨N, 3, none⟩ (.string ⟨#[]⟩)).setCell ⟨N, 4, none⟩ (.string ⟨#[]⟩)) = V3 ∧ (V3.cell? ⟨N, 0, none⟩ = some (.int .i64 0) ∧ V3.cell? ⟨N, 1, none⟩ = some (.int .i64 0) ∧ V3.cell? ⟨N, 2, none⟩ = some (.int .i64 0) ∧ V3.cell? ⟨N, 3, none⟩ = some (.string ⟨#[]⟩) ∧ V3.cell? ⟨N, 4, none⟩ = some (.string ⟨#[]⟩)) ∧ Below w.heap.size w V3) := by
    intro V1 hl
    have hlm : Mv E W0 V1 := Mv.below hl
    have nE : ¬ E N := fun e => by have := lE N e; omega
    have lN : N < V1.heap.size := by have := hlm.size; omega
    obtain ⟨A0, hA0⟩ : ∃ A0, V1.alloc (.cells #[.int .i64 0, .int .i64 0, .int .i64 0, .string ⟨#[]⟩, .string ⟨#[]⟩, .int .i64 0] 61) = A0 := ⟨_, rfl⟩
    have ca : ∀ j v, #[.int .i64 0, .int .i64 0, .int .i64 0, .string ⟨#[]⟩, .string ⟨#[]⟩, .int .i64 0][j]? = some v → A0.cell? ⟨V1.heap.size, j, none⟩ = some v := fun j v hj => by rw [← hA0]; exact cell_at rfl hj
    have fa : ∀ j, A0.frozen? ⟨V1.heap.size, j, none⟩ = false := fun j => by rw [← hA0]; exact froz_new rfl
    obtain ⟨V2, hV2⟩ : ∃ V2, ((((((A0.setCell ⟨V1.heap.size, 0, none⟩ (.int .i64 0)).setCell ⟨V1.heap.size, 1, none⟩ (.int .i64 0)).setCell ⟨V1.heap.size, 2, none⟩ (.int .i64 0)).setCell ⟨V1.heap.size, 3, none⟩ (.string ⟨#[]⟩)).setCell ⟨V1.heap.size, 4, none⟩ (.string ⟨#[]⟩)).setCell ⟨V1.heap.size, 5, none⟩ (.int .i64 0)) = V2 := ⟨_, rfl⟩
    have ka := Cv.cells A0 V1.heap.size 0 [.int .i64 0, .int .i64 0, .int .i64 0, .string ⟨#[]⟩, .string ⟨#[]⟩, .int .i64 0]
    have b2 : Below V1.heap.size V1 V2 := by
      refine ((Below.refl _ _).alloc (Nat.le_refl _) (.cells #[.int .i64 0, .int .i64 0, .int .i64 0, .string ⟨#[]⟩, .string ⟨#[]⟩, .int .i64 0] 61)).trans ?_
      rw [hA0, ← hV2]
      exact ka.mv.toBelow (by rw [← hA0]; simp) (fun k hk e => by obtain ⟨j, e, _⟩ := e; omega)
    have cz : ∀ j v, #[.int .i64 0, .int .i64 0, .int .i64 0, .string ⟨#[]⟩, .string ⟨#[]⟩][j]? = some v → V2.cell? ⟨N, j, none⟩ = some v := fun j v hj => bcell b2 lN (hlm.cell (a := ⟨N, j, none⟩) nE (bx j v hj))
    have cf : ∀ j, V2.frozen? ⟨N, j, none⟩ = false := fun j => (bfroz b2 lN).trans ((hlm.froz (a := ⟨N, j, none⟩) nE (by rw [s0]; exact Nat.lt_succ_self N)).trans (fx j))
    have k := Cv.cells V2 N 0 [.int .i64 0, .int .i64 0, .int .i64 0, .string ⟨#[]⟩, .string ⟨#[]⟩]
    obtain ⟨V3, hV3⟩ : ∃ V3, (((((V2.setCell ⟨N, 0, none⟩ (.int .i64 0)).setCell ⟨N, 1, none⟩ (.int .i64 0)).setCell ⟨N, 2, none⟩ (.int .i64 0)).setCell ⟨N, 3, none⟩ (.string ⟨#[]⟩)).setCell ⟨N, 4, none⟩ (.string ⟨#[]⟩)) = V3 := ⟨_, rfl⟩
    have m3 : Mv (fun k => k = N) V2 V3 := by rw [← hV3]; exact k.mv.mono fun k _ s => by obtain ⟨j, s, _⟩ := s; exact s
    refine ⟨A0, V2, V3, hA0, ⟨ca 0 _ rfl, ca 1 _ rfl, ca 2 _ rfl, ca 3 _ rfl, ca 4 _ rfl, ca 5 _ rfl⟩, ⟨fa 0, fa 1, fa 2, fa 3, fa 4, fa 5⟩, hV2, ⟨by rw [← hV2]; exact ((World.cell?_setCell_other _ _ _ _ (by simp)).trans ((World.cell?_setCell_other _ _ _ _ (by simp)).trans ((World.cell?_setCell_other _ _ _ _ (by simp)).trans ((World.cell?_setCell_other _ _ _ _ (by simp)).trans ((World.cell?_setCell_other _ _ _ _ (by simp)).trans (World.cell?_setCell_same _ _ _ (ca 0 _ rfl))))))), by rw [← hV2]; exact ((World.cell?_setCell_other _ _ _ _ (by simp)).trans ((World.cell?_setCell_other _ _ _ _ (by simp)).trans ((World.cell?_setCell_other _ _ _ _ (by simp)).trans ((World.cell?_setCell_other _ _ _ _ (by simp)).trans (World.cell?_setCell_same _ _ _ ((World.cell?_setCell_other _ _ _ _ (by simp)).trans (ca 1 _ rfl))))))), by rw [← hV2]; exact ((World.cell?_setCell_other _ _ _ _ (by simp)).trans ((World.cell?_setCell_other _ _ _ _ (by simp)).trans ((World.cell?_setCell_other _ _ _ _ (by simp)).trans (World.cell?_setCell_same _ _ _ ((World.cell?_setCell_other _ _ _ _ (by simp)).trans ((World.cell?_setCell_other _ _ _ _ (by simp)).trans (ca 2 _ rfl))))))), by rw [← hV2]; exact ((World.cell?_setCell_other _ _ _ _ (by simp)).trans ((World.cell?_setCell_other _ _ _ _ (by simp)).trans (World.cell?_setCell_same _ _ _ ((World.cell?_setCell_other _ _ _ _ (by simp)).trans ((World.cell?_setCell_other _ _ _ _ (by simp)).trans ((World.cell?_setCell_other _ _ _ _ (by simp)).trans (ca 3 _ rfl))))))), by rw [← hV2]; exact ((World.cell?_setCell_other _ _ _ _ (by simp)).trans (World.cell?_setCell_same _ _ _ ((World.cell?_setCell_other _ _ _ _ (by simp)).trans ((World.cell?_setCell_other _ _ _ _ (by simp)).trans ((World.cell?_setCell_other _ _ _ _ (by simp)).trans ((World.cell?_setCell_other _ _ _ _ (by simp)).trans (ca 4 _ rfl))))))), by rw [← hV2]; exact (World.cell?_setCell_same _ _ _ ((World.cell?_setCell_other _ _ _ _ (by simp)).trans ((World.cell?_setCell_other _ _ _ _ (by simp)).trans ((World.cell?_setCell_other _ _ _ _ (by simp)).trans ((World.cell?_setCell_other _ _ _ _ (by simp)).trans ((World.cell?_setCell_other _ _ _ _ (by simp)).trans (ca 5 _ rfl)))))))⟩, ⟨cz 0 _ rfl, cz 1 _ rfl, cz 2 _ rfl, cz 3 _ rfl, cz 4 _ rfl⟩, ⟨cf 0, cf 1, cf 2, cf 3, cf 4⟩, hV3, ⟨by rw [← hV3]; exact ((World.cell?_setCell_other _ _ _ _ (by simp)).trans ((World.cell?_setCell_other _ _ _ _ (by simp)).trans ((World.cell?_setCell_other _ _ _ _ (by simp)).trans ((World.cell?_setCell_other _ _ _ _ (by simp)).trans (World.cell?_setCell_same _ _ _ (cz 0 _ rfl)))))), by rw [← hV3]; exact ((World.cell?_setCell_other _ _ _ _ (by simp)).trans ((World.cell?_setCell_other _ _ _ _ (by simp)).trans ((World.cell?_setCell_other _ _ _ _ (by simp)).trans (World.cell?_setCell_same _ _ _ ((World.cell?_setCell_other _ _ _ _ (by simp)).trans (cz 1 _ rfl)))))), by rw [← hV3]; exact ((World.cell?_setCell_other _ _ _ _ (by simp)).trans ((World.cell?_setCell_other _ _ _ _ (by simp)).trans (World.cell?_setCell_same _ _ _ ((World.cell?_setCell_other _ _ _ _ (by simp)).trans ((World.cell?_setCell_other _ _ _ _ (by simp)).trans (cz 2 _ rfl)))))), by rw [← hV3]; exact ((World.cell?_setCell_other _ _ _ _ (by simp)).trans (World.cell?_setCell_same _ _ _ ((World.cell?_setCell_other _ _ _ _ (by simp)).trans ((World.cell?_setCell_other _ _ _ _ (by simp)).trans ((World.cell?_setCell_other _ _ _ _ (by simp)).trans (cz 3 _ rfl)))))), by rw [← hV3]; exact (World.cell?_setCell_same _ _ _ ((World.cell?_setCell_other _ _ _ _ (by simp)).trans ((World.cell?_setCell_other _ _ _ _ (by simp)).trans ((World.cell?_setCell_other _ _ _ _ (by simp)).trans ((World.cell?_setCell_other _ _ _ _ (by simp)).trans (cz 4 _ rfl))))))⟩, ?_⟩
    exact (((b0.trans (hl.mono b0.size)).trans (b2.mono (by omega))).trans (m3.toBelow (by have := b2.size; omega) (fun k hk e => by omega)))
  clear s0 bx fx lE h b0
  unfold lp at *
  go_enter Tryz.func8, Tryz.ntmps8
  go_wp2_with (rw [hW0])
  refine hP.out.mono ?_
  rintro e V1 ⟨rfl, hl⟩
  obtain ⟨A0, V2, V3, hA0, ca, fa, hV2, cy, cz, cf, hV3, c7, hg⟩ := fin.out V1 hl
  have hgH := hidP hg
  clear hg fin hP hl
  go_wp2_with (first | rw [hA0] | rw [hV2] | rw [hV3])
  refine bodyPost_ret (v := .tuple #[.agg #[.int .i64 0, .int .i64 0, .int .i64 0, .string ⟨#[]⟩, .string ⟨#[]⟩], .bool false]) (by simp [results, Tryz.results8, go_sem, c7]) rfl ⟨rfl, hgH.out⟩
end Go.Proofs.YtdcidlgmnnaahaaGreat
