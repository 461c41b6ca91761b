import Derived.Test.YtjcdjkfnmobhkaaGreatBh
import Derived.Test.YtjcdjkfnmobhkaaGreatBd
import Derived.Test.YtjcdjkfnmobhkaaGreatQwNB
import Derived.Laws.EntriesVeiled
/- A loop in memory; New, Len, Push. -/
namespace Go.Proofs.YtjcdjkfnmobhkaaGreat
open Go.RowKit Go.Shelf Go.Lib
attribute [local go_sem] Oper.semAt_some
def XL (n : Int) (mv : Value) : Nat → Option Value := fun j => if j = 4 then some (.int .i64 n) else if j = 5 then some mv else none
abbrev fE : Value := .func (.func 31) #[] #[]
/-- The queue of a loop where n events were pushed: the zero one until one is. -/
def nbq (n : Nat) (mv : Value) : NB := ⟨31, XL n mv, if n = 0 then .nilFunc else fE⟩
theorem bfq {n : Nat} (h : n ≠ 0) (mv : Value) : Qw.Bf (nbq n mv) keyW := by
  unfold nbq
  rw [if_neg h]
  exact bfW _
theorem Qu.xt {nb : NB} {w : World} {q : Nat} {E B : Nat → Prop} {L : List Wt} {n : Nat} (h : Qw.Qu nb keyW w q E B L n) : Xt w q nb.X := by
  obtain ⟨v, xs, F, L', a1, _⟩ := h
  exact a1.xt
theorem Qu.q {nb : NB} {w : World} {q : Nat} {E B : Nat → Prop} {L : List Wt} {n : Nat} (h : Qw.Qu nb keyW w q E B L n) : E q ∧ (∀ k, B k → ¬ E k) ∧ L.length ≤ n ∧ n ≤ 200000 := by
  obtain ⟨v, xs, F, L', a1, _, _, a4, a5, a6⟩ := h
  refine ⟨(a6 q).2 (.inl rfl), fun k hk e => ?_, a4, a5⟩
  rcases (a6 k).1 e with s | s
  · exact (a1.nB k hk).1 s
  · exact (a1.nB k hk).2 s
/-- What lies behind the queue may turn. -/
theorem Qu.setX {nb : NB} {w : World} {q : Nat} {E B : Nat → Prop} {L : List Wt} {n : Nat} (h : Qw.Qu nb keyW w q E B L n) {j : Nat} (hj : 4 ≤ j) {v0 : Value} (hc : w.cell? ⟨q, j, none⟩ = some v0) (v : Value) (X' : Nat → Option Value) (hX : ∀ i, 4 ≤ i → X' i = if i = j then some v else nb.X i) :
    Qw.Qu ⟨nb.n, X', nb.f⟩ keyW (w.setCell ⟨q, j, none⟩ v) q E B L n ∧ Mv (fun k => k = q) w (w.setCell ⟨q, j, none⟩ v) := by
  obtain ⟨vv, xs, F, L', a1, a2, a3, a4, a5, a6⟩ := h
  have k := Cv.one w q j v
  have lt := a1.lt
  have m : Mv (fun k => k = q) w (w.setCell ⟨q, j, none⟩ v) := k.mv.mono fun k _ s => by obtain ⟨j, s, _⟩ := s; exact s
  refine ⟨⟨vv, xs, F, L', ⟨k.cell (by omega) a1.c0, k.cell (by omega) a1.c1, k.cell (by omega) a1.c2, k.cell (by omega) a1.c3, (k.fr q 1 lt).trans a1.f1, (k.fr q 2 lt).trans a1.f2, (k.fr q 3 lt).trans a1.f3, a1.sv.mv m (fun k hk e => a1.nq (e ▸ hk)), Qw.RF.mv m (fun k hk e => (a1.nB k hk).1 e) _ _ a1.rf, a1.nq, a1.nB, fun k hk => Nat.lt_of_lt_of_le (a1.lo k hk) m.size, a1.len, fun i hi => ?_, fun i hi => (k.fr q i lt).trans (a1.xt.2 i hi)⟩, a2, a3, a4, a5, a6⟩, m⟩
  show _ = X' i
  rw [hX i hi]
  by_cases e : i = j
  · subst e; rw [if_pos rfl]; exact World.cell?_setCell_same _ _ _ hc
  · rw [if_neg e]; exact (k.ce q i lt (fun s => e s.2)).trans (a1.xt.1 i hi)
/-- An empty queue, by its cells. -/
theorem Qu.anew {nb : NB} {w : World} {q : Nat} (c0 : w.cell? ⟨q, 0, none⟩ = some nb.f) (c1 : w.cell? ⟨q, 1, none⟩ = some (.slice none 0 0)) (c2 : w.cell? ⟨q, 2, none⟩ = some (.int .i64 0)) (c3 : w.cell? ⟨q, 3, none⟩ = some (.int .i64 0)) (f : ∀ j, 1 ≤ j → j ≤ 3 → w.frozen? ⟨q, j, none⟩ = false) (x : Xt w q nb.X) :
    Qw.Qu nb keyW w q (fun k => k = q) (fun _ => False) [] 0 :=
  ⟨.slice none 0 0, [], [], [], ⟨c0, c1, c2, c3, f 1 (by omega) (by omega), f 2 (by omega) (by omega), f 3 (by omega) (by omega), .inl ⟨rfl, rfl⟩, trivial, (fun e => by cases e), (fun _ h => h.elim), (fun _ h => h.elim), by simp, x⟩, QI.nil keyW 0, rfl, Nat.le_refl _, by omega, fun k => ⟨.inl, fun h => h.elim id (fun e => by cases e)⟩⟩
/-- A loop: what waits (n were pushed), what is set. -/
def Lo (w : World) (lb : Nat) (E : Nat → Prop) (L : List Wt) (n : Nat) (T : List Du) : Prop :=
  ∃ Eq B mv, Qw.Qu (nbq n mv) keyW w lb Eq B L n ∧ (n = 0 → w.frozen? ⟨lb, 0, none⟩ = false) ∧ TM w mv T ∧ Ts T ∧ (∀ k, E k ↔ (Eq k ∨ B k ∨ mbk mv = some k)) ∧ (∀ k, mbk mv = some k → ¬ Eq k ∧ ¬ B k) ∧ (∀ x ∈ L, x.n < n) ∧ T.length ≤ 100000
theorem Lo.lt {w : World} {lb : Nat} {E : Nat → Prop} {L : List Wt} {n : Nat} {T : List Du} (h : Lo w lb E L n T) : (∀ k, E k → k < w.heap.size) ∧ E lb := by
  obtain ⟨Eq, B, mv, h1, h2, h3, h4, h5, h6, h7⟩ := h
  refine ⟨fun k hk => ?_, (h5 lb).2 (.inl (Qu.q h1).1)⟩
  rcases (h5 k).1 hk with s | s | s
  · exact h1.lt.1 k s
  · exact h1.lt.2 k s
  · exact h3.lt s
theorem Lo.mv {D : Nat → Prop} {w V : World} {lb : Nat} {E : Nat → Prop} {L : List Wt} {n : Nat} {T : List Du} (h : Lo w lb E L n T) (m : Mv D w V) (hD : ∀ k, E k → ¬ D k) : Lo V lb E L n T := by
  have lt := h.lt
  obtain ⟨Eq, B, mv, h1, h2, h3, h4, h5, h6, h7⟩ := h
  exact ⟨Eq, B, mv, h1.mv m (fun k hk => hD k ((h5 k).2 (.inl hk))) (fun k hk => hD k ((h5 k).2 (.inr (.inl hk)))), fun e => (m.froz (a := ⟨lb, 0, none⟩) (hD lb lt.2) (lt.1 lb lt.2)).trans (h2 e), h3.mv m (fun k hk => hD k ((h5 k).2 (.inr (.inr hk)))), h4, h5, h6, h7⟩
theorem Lo.below {w V : World} {lb : Nat} {E : Nat → Prop} {L : List Wt} {n : Nat} {T : List Du} (h : Lo w lb E L n T) (b : Below w.heap.size w V) : Lo V lb E L n T := h.mv (D := fun _ => False) (Mv.below b) (fun _ _ h => h)
theorem Lo.ts {w : World} {lb : Nat} {E : Nat → Prop} {L : List Wt} {n : Nat} {T : List Du} (h : Lo w lb E L n T) : Ts T := by
  obtain ⟨Eq, B, mv, h1, h2, h3, h4, _⟩ := h
  exact h4
/-- From one state to another one. -/
def Lg (w : World) (lb : Nat) (E : Nat → Prop) (L : List Wt) (n : Nat) (T : List Du) (V : World) : Prop := ∃ E', Lo V lb E' L n T ∧ Mv E w V ∧ Gr E w E'
theorem Lg.below {w w0 V : World} {lb : Nat} {E : Nat → Prop} {L : List Wt} {n : Nat} {T : List Du} (b : Below w.heap.size w w0) (h : Lg w0 lb E L n T V) : Lg w lb E L n T V := by
  obtain ⟨E', h1, h2, h3⟩ := h
  exact ⟨E', h1, (Mv.below b).trans' h2, Gr.mono b.size h3⟩
theorem Lo.same {w V : World} {lb : Nat} {E : Nat → Prop} {L : List Wt} {n : Nat} {T : List Du} (h : Lo w lb E L n T) (b : Below w.heap.size w V) : Lg w lb E L n T V := ⟨E, h.below b, Mv.below b, Gr.refl _ _⟩
def lp (b : Nat) : Value := .pointer (some ⟨b, 0, none⟩)
set_option maxRecDepth 100000 in
set_option maxHeartbeats 1000000 in
theorem newl_any (w : World) : Calls Tryz.prog 8 #[] w fun e V => e = .returned (lp w.heap.size) ∧ Lo V w.heap.size (fun k => k = w.heap.size) [] 0 [] ∧ Below w.heap.size w V := by
  obtain ⟨V, hV⟩ : ∃ V, w.alloc (.cells #[.nilFunc, .slice none 0 0, .int .i64 0, .int .i64 0, .int .i64 0, .map none] 73) = V := ⟨_, rfl⟩
  have c : ∀ j u, #[Value.nilFunc, .slice none 0 0, .int .i64 0, .int .i64 0, .int .i64 0, .map none][j]? = some u → V.cell? ⟨w.heap.size, j, none⟩ = some u := fun j u hj => by rw [← hV]; exact cell_at rfl hj
  have f : ∀ j, V.frozen? ⟨w.heap.size, j, none⟩ = false := fun j => by rw [← hV]; exact froz_new rfl
  have fin : Hid (Lo V w.heap.size (fun k => k = w.heap.size) [] 0 [] ∧ Below w.heap.size w V) := by
    refine ⟨⟨fun k => k = w.heap.size, fun _ => False, .map none, Qu.anew (c 0 _ rfl) (c 1 _ rfl) (c 2 _ rfl) (c 3 _ rfl) (fun j _ _ => f j) ⟨fun j hj => ?_, fun j _ => f j⟩, fun _ => f 0, .inl ⟨rfl, rfl⟩, Ts.nil, fun k => ⟨.inl, fun h => h.elim id (fun h => h.elim False.elim (fun h => by cases h))⟩, (fun _ h => by cases h), (fun _ h => by cases h), by simp⟩, by rw [← hV]; exact (Below.refl _ _).alloc (Nat.le_refl _) _⟩
    match j, hj with
    | 4, _ => exact c 4 _ rfl
    | 5, _ => exact c 5 _ rfl
    | j + 6, _ => rw [← hV]; exact cell_new_none rfl (by simp)
  unfold lp
  clear c f
  go_enter Tryz.func8, Tryz.ntmps8
  go_wp2_with (rw [hV])
  go_ret
  exact ⟨rfl, fin.out⟩
set_option maxRecDepth 100000 in
set_option maxHeartbeats 1000000 in
theorem lenl_any {w : World} {lb : Nat} {E : Nat → Prop} {L : List Wt} {n : Nat} {T : List Du} (h : Lo w lb E L n T) : Calls Tryz.prog 20 #[lp lb] w fun e V => e = .returned (.int .i64 L.length) ∧ V = w := by
  obtain ⟨Eq, B, mv, h1, _⟩ := h
  have hL := Qw.len_any h1
  unfold Qw.qp at hL
  unfold lp
  clear h1
  go_enter Tryz.func20, Tryz.ntmps20
  go_wp2_with fail
  refine hL.mono ?_
  rintro e V ⟨rfl, rfl⟩
  go_wp2_with fail
  go_ret
  exact ⟨rfl, rfl⟩
end Go.Proofs.YtjcdjkfnmobhkaaGreat
/- Push on a loop. -/
namespace Go.Proofs.YtjcdjkfnmobhkaaGreat
open Go.RowKit Go.Shelf Go.Lib
attribute [local go_sem] Oper.semAt_some
theorem Lg.step {w W V : World} {lb : Nat} {E : Nat → Prop} {L : List Wt} {n : Nat} {T : List Du} (m : Mv E w W) (h : Lg W lb E L n T V) : Lg w lb E L n T V := by
  obtain ⟨E', h1, h2, h3⟩ := h
  exact ⟨E', h1, m.trans' h2, Gr.mono m.size h3⟩
def mkW (k p s : Int) (u x : ByteArray) (n : Nat) (h : n < 100000) : Wt := ⟨k, p, s, u, x, n, by omega⟩
theorem qpush {W : World} {lb : Nat} {E Eq B : Nat → Prop} {L : List Wt} {n : Nat} {T : List Du} {mv : Value} (h1 : Qw.Qu ⟨31, XL n mv, fE⟩ keyW W lb Eq B L n) (h3 : TM W mv T) (h4 : Ts T) (h5 : ∀ k, E k ↔ (Eq k ∨ B k ∨ mbk mv = some k)) (h6 : ∀ k, mbk mv = some k → ¬ Eq k ∧ ¬ B k) (h7 : ∀ x ∈ L, x.n < n) (h8 : T.length ≤ 100000) (hn : n < 100000) (x : Wt) (hx : x.n = n) :
    Calls Tryz.prog 32 #[Qw.qp lb, Qw.ev x] W fun e V => e = .returned (.tuple #[]) ∧ V.cell? ⟨lb, 4, none⟩ = some (.int .i64 n) ∧ V.frozen? ⟨lb, 4, none⟩ = false ∧ ∀ V2, V.setCell ⟨lb, 4, none⟩ (.int .i64 ((n : Int) + 1)) = V2 → Lg W lb E (insA keyW x L) (n + 1) T V2 := by
  have lt := h1.lt
  have q0 := (Qu.q h1).1
  refine (Qw.push_any (bfW _) h1 (by omega) x).mono ?_
  rintro e V ⟨rfl, E', B', u1, m, g, gb⟩
  have X1 := Qu.xt u1
  have c4 : V.cell? ⟨lb, 4, none⟩ = some (.int .i64 n) := X1.1 4 (by omega)
  refine ⟨rfl, c4, X1.2 4 (by omega), fun V2 hV2 => ?_⟩
  obtain ⟨u2, m2⟩ := Qu.setX u1 (j := 4) (by omega) c4 (.int .i64 ((n : Int) + 1)) (XL ((n + 1 : Nat) : Int) mv) (fun i hi => by
    unfold XL
    by_cases e : i = 4
    · subst e; simp
    · simp [e])
  rw [hV2] at u2 m2
  have q2 := Qu.q u2
  have lm : ∀ k, mbk mv = some k → k < W.heap.size := fun k hk => h3.lt hk
  have ne : ∀ k, mbk mv = some k → ¬ Eq k := fun k hk => (h6 k hk).1
  have nq : ∀ k, mbk mv = some k → ¬ k = lb := fun k hk e => (h6 k hk).1 (e ▸ q0)
  refine ⟨fun k => E' k ∨ B' k ∨ mbk mv = some k, ⟨E', B', mv, ?_, fun e => by omega, (h3.mv m ne).mv m2 nq, h4, fun k => Iff.rfl, fun k hk => ⟨fun e => ?_, fun e => ?_⟩, fun y hy => ?_, h8⟩, ?_, fun k hk => ?_⟩
  · unfold nbq
    rw [if_neg (by omega)]
    exact u2
  · rcases g k e with s | s
    · exact ne k hk s
    · have := lm k hk; omega
  · rcases gb k e with s | s
    · exact (h6 k hk).2 s
    · have := lm k hk; omega
  · rcases (insA_mem keyW x y L).1 hy with e | e
    · rw [e, hx]; omega
    · have := h7 y e; omega
  · exact (m.mono fun k _ e => (h5 k).2 (.inl e)).trans (E' := fun k => k = lb) (fun k e => .inl ((h5 k).2 (.inl (e ▸ q0)))) m2
  · rcases hk with e | e | e
    · exact (g k e).imp (fun s => (h5 k).2 (.inl s)) id
    · exact (gb k e).imp (fun s => (h5 k).2 (.inr (.inl s))) id
    · exact .inl ((h5 k).2 (.inr (.inr e)))
set_option maxRecDepth 100000 in
set_option maxHeartbeats 1000000 in
theorem newq_any (w : World) : Calls Tryz.prog 30 #[fE] w fun e V => e = .returned (Qw.qp w.heap.size) ∧ V = w.alloc (.cells #[fE, .slice none 0 0, .int .i64 0, .int .i64 0] 70) := by
  unfold fE Qw.qp
  go_enter Tryz.func30, Tryz.ntmps30
  go_wp2_with fail
  go_ret
  exact ⟨rfl, rfl⟩
set_option maxRecDepth 100000 in
set_option maxHeartbeats 1000000 in
theorem pushl_bad {w : World} {lb : Nat} {E : Nat → Prop} {L : List Wt} {n : Nat} {T : List Du} (h : Lo w lb E L n T) (k p s : Int) (u x : ByteArray) (hk : k < 1 ∨ 6 < k) :
    Calls Tryz.prog 9 #[lp lb, .agg #[.int .i64 k, .int .i64 p, .int .i64 s, .string u, .string x]] w fun e V => e = .returned (.int .i64 140) ∧ Lg w lb E L n T V := by
  obtain ⟨V, hV⟩ : ∃ V, w.alloc (.cells #[.int .i64 k, .int .i64 p, .int .i64 s, .string u, .string x] 32) = V := ⟨_, rfl⟩
  have fin := hidP (h.same (V := V) (by rw [← hV]; exact (Below.refl _ _).alloc (Nat.le_refl _) _))
  have x0 : V.cell? ⟨w.heap.size, 0, none⟩ = some (.int .i64 k) := by rw [← hV]; exact cell_at rfl rfl
  clear h
  rcases hk with hk | hk
  · unfold lp
    go_enter Tryz.func9, Tryz.ntmps9
    go_wp2_with fail
    go_ret
    exact ⟨rfl, fin.out⟩
  · have h1 : ¬ k < 1 := by omega
    have h2 : decide (k < 1) = false := by simpa using h1
    unfold lp
    go_enter Tryz.func9, Tryz.ntmps9
    go_wp2_with fail
    go_ret
    exact ⟨rfl, fin.out⟩
end Go.Proofs.YtjcdjkfnmobhkaaGreat
