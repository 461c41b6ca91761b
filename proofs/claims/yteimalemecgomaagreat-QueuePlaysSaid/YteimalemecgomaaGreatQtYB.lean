/- All: the elements in order, told to a taker. -/
import Derived.Test.YteimalemecgomaaGreatQtXB
import Derived.Deep.LoopGhost
namespace Go.Proofs.YteimalemecgomaaGreat.Qt
open Go.RowKit Go.Shelf Go.Lib
attribute [local go_sem] Oper.semAt_some
set_option maxRecDepth 100000 in
set_option maxHeartbeats 1000000 in
theorem allf_any (q : Nat) (w : World) : Calls Tryz.prog 13 #[qp q] w fun e V => e = .returned (.func (.func 28) #[] #[.pointer (some ⟨w.heap.size, 0, none⟩)]) ∧ V = w.alloc (.cells #[qp q] 24) := by
  unfold qp
  go_enter Tryz.func13, Tryz.ntmps13
  go_wp2_with fail
  go_ret
  exact ⟨rfl, rfl⟩
/-- A taker: it takes x, and wants more or not; it turns nothing but D and what is new. -/
def Tak (f : Nat) (caps : Array Value) (J : List El → (Nat → Prop) → World → Prop) (Jx : (Nat → Prop) → World → Prop) : Prop :=
  ∀ x rest D W, J (x :: rest) D W → Calls Tryz.prog f (#[ev x] ++ caps) W fun e V => Mv D W V ∧ ((e = .returned (.bool true) ∧ ∃ D', Gr D W D' ∧ J rest D' V) ∨ (e = .returned (.bool false) ∧ ∃ D', Gr D W D' ∧ Jx D' V))
/-- Where the loop stands: what is left in the twin, beside the taker's. -/
def AS (nb : Nat) (key : El → Int) (w : World) (D0 : Nat → Prop) (q : Nat) (n : Nat) (J : List El → (Nat → Prop) → World → Prop) (s rest : List El) (W : World) : Prop :=
  ∃ D E B, Qu nb key W q E B rest n ∧ J s D W ∧ (∀ k, E k → w.heap.size ≤ k ∧ ¬ D k) ∧ (∀ k, B k → ¬ D k) ∧ Mv D0 w W ∧ Gr D0 w D
/-- The end: all is told, or it was left. -/
def AE (w : World) (D0 : Nat → Prop) (J : List El → (Nat → Prop) → World → Prop) (Jx : (Nat → Prop) → World → Prop) (V : World) : Prop :=
  Mv D0 w V ∧ ∃ D, Gr D0 w D ∧ (J [] D V ∨ Jx D V)
theorem AS.pop {nb : Nat} {key : El → Int} (hB : Bf nb key) {w : World} {D0 : Nat → Prop} {q n : Nat} {J : List El → (Nat → Prop) → World → Prop} (tJ : Ter w.heap.size J) {s : List El} {x : El} {rest : List El} {W : World} (h : AS nb key w D0 q n J s (x :: rest) W) :
    Calls Tryz.prog 8 #[qp q] W fun e V => e = .returned (.tuple #[ev x, .int .i64 0]) ∧ AS nb key w D0 q n J s rest V := by
  obtain ⟨D, E, B, u, j, h1, h2, h3, h4⟩ := h
  refine (pop_some hB u).mono ?_
  rintro e V ⟨rfl, E', B', u', m, g, gb⟩
  have lD := tJ.low _ _ _ j
  have szW := h3.size
  refine ⟨rfl, D, E', B', u', tJ.keep _ _ _ _ j (m.mono fun k _ e => ⟨(h1 k e).2, (h1 k e).1⟩), fun k hk => ?_, fun k hk => ?_, h3.trans (E' := E) (fun k hk => .inr (h1 k hk).1) m, h4⟩
  · rcases g k hk with s | s
    · exact h1 k s
    · exact ⟨by omega, fun d => by have := lD k d; omega⟩
  · rcases gb k hk with s | s
    · exact h2 k s
    · exact fun d => by have := lD k d; omega
/-- A box at b with x in it. -/
structure Bv (w : World) (b : Nat) (x : El) : Prop where
  c : (w.cell? ⟨b, 0, none⟩ = some (vc0 x) ∧ w.cell? ⟨b, 1, none⟩ = some (vc1 x))
  f : (w.frozen? ⟨b, 0, none⟩ = false ∧ w.frozen? ⟨b, 1, none⟩ = false)
  lt : b < w.heap.size
theorem Bv.new (w : World) (x : El) : Bv (w.alloc (.cells #[vc0 x, vc1 x] 27)) w.heap.size x :=
  ⟨⟨cell_at rfl rfl, cell_at rfl rfl⟩, ⟨froz_new rfl, froz_new rfl⟩, by simp⟩
theorem Bv.mv {D : Nat → Prop} {w V : World} {b : Nat} {x : El} (h : Bv w b x) (m : Mv D w V) (hb : ¬ D b) : Bv V b x :=
  ⟨⟨m.cell (a := ⟨b, 0, none⟩) hb h.c.1, m.cell (a := ⟨b, 1, none⟩) hb h.c.2⟩, ⟨(m.froz (a := ⟨b, 0, none⟩) hb h.lt).trans h.f.1, (m.froz (a := ⟨b, 1, none⟩) hb h.lt).trans h.f.2⟩, Nat.lt_of_lt_of_le h.lt m.size⟩
theorem Bv.put {w : World} {b : Nat} {x : El} (h : Bv w b x) (y : El) : ∃ V, ((w.setCell ⟨b, 0, none⟩ (vc0 y)).setCell ⟨b, 1, none⟩ (vc1 y)) = V ∧ Bv V b y ∧ Mv (fun k => k = b) w V := by
  have k := Cv.cells w b 0 [vc0 y, vc1 y]
  refine ⟨_, rfl, ⟨?_, ?_, ?_⟩, ?_⟩
  · have hc := h.c
    exact ⟨((World.cell?_setCell_other _ _ _ _ (by simp)).trans (World.cell?_setCell_same _ _ _ (hc.1))), (World.cell?_setCell_same _ _ _ ((World.cell?_setCell_other _ _ _ _ (by simp)).trans (hc.2)))⟩
  · exact ⟨(k.fr b 0 h.lt).trans h.f.1, (k.fr b 1 h.lt).trans h.f.2⟩
  · exact Nat.lt_of_lt_of_le h.lt k.mv.size
  · exact k.mv.mono fun k _ s => by obtain ⟨j, s, _⟩ := s; exact s
/-- The same with a box beside. -/
def AZ (nb : Nat) (key : El → Int) (w : World) (D0 : Nat → Prop) (q : Nat) (n : Nat) (J : List El → (Nat → Prop) → World → Prop) (s rest : List El) (b : Nat) (v : El) (W : World) : Prop :=
  ∃ D E B, (Qu nb key W q E B rest n ∧ J s D W ∧ (∀ k, E k → w.heap.size ≤ k ∧ ¬ D k) ∧ (∀ k, B k → ¬ D k) ∧ Mv D0 w W ∧ Gr D0 w D) ∧ Bv W b v ∧ w.heap.size ≤ b ∧ ¬ D b ∧ ¬ E b ∧ ¬ B b
theorem AZ.as {nb : Nat} {key : El → Int} {w : World} {D0 : Nat → Prop} {q n : Nat} {J : List El → (Nat → Prop) → World → Prop} {s rest : List El} {b : Nat} {v : El} {W : World} (h : AZ nb key w D0 q n J s rest b v W) : AS nb key w D0 q n J s rest W := by
  obtain ⟨D, E, B, h, _⟩ := h
  exact ⟨D, E, B, h⟩
theorem AZ.bv {nb : Nat} {key : El → Int} {w : World} {D0 : Nat → Prop} {q n : Nat} {J : List El → (Nat → Prop) → World → Prop} {s rest : List El} {b : Nat} {v : El} {W : World} (h : AZ nb key w D0 q n J s rest b v W) : Bv W b v := by
  obtain ⟨D, E, B, _, h, _⟩ := h
  exact h
theorem AS.box {nb : Nat} {key : El → Int} {w : World} {D0 : Nat → Prop} {q n : Nat} {J : List El → (Nat → Prop) → World → Prop} (tJ : Ter w.heap.size J) {s rest : List El} {W : World} (h : AS nb key w D0 q n J s rest W) (x : El) : ∃ V, W.alloc (.cells #[vc0 x, vc1 x] 27) = V ∧ AZ nb key w D0 q n J s rest W.heap.size x V := by
  obtain ⟨D, E, B, u, j, h1, h2, h3, h4⟩ := h
  have hb : Below W.heap.size W (W.alloc (.cells #[vc0 x, vc1 x] 27)) := (Below.refl _ _).alloc (Nat.le_refl _) _
  have lD := tJ.low _ _ _ j
  have lE := u.lt
  exact ⟨_, rfl, D, E, B, ⟨u.mv (D := fun _ => False) (Mv.below hb) (fun _ _ h => h) (fun _ _ h => h), tJ.keep _ _ _ _ j (Mv.below hb), h1, h2, h3.trans' (Mv.below hb), h4⟩, Bv.new W x, h3.size, fun d => by have := lD _ d; omega, fun d => by have := lE.1 _ d; omega, fun d => by have := lE.2 _ d; omega⟩
theorem AZ.put {nb : Nat} {key : El → Int} {w : World} {D0 : Nat → Prop} {q n : Nat} {J : List El → (Nat → Prop) → World → Prop} (tJ : Ter w.heap.size J) {s rest : List El} {b : Nat} {v : El} {W : World} (h : AZ nb key w D0 q n J s rest b v W) (x : El) : ∃ V, ((W.setCell ⟨b, 0, none⟩ (vc0 x)).setCell ⟨b, 1, none⟩ (vc1 x)) = V ∧ AZ nb key w D0 q n J s rest b x V := by
  obtain ⟨D, E, B, ⟨u, j, h1, h2, h3, h4⟩, hv, lo, nD, nE, nB⟩ := h
  obtain ⟨V, e, hv', m⟩ := hv.put x
  exact ⟨V, e, D, E, B, ⟨u.mv m (fun k hk e => nE (e ▸ hk)) (fun k hk e => nB (e ▸ hk)), tJ.keep _ _ _ _ j (m.mono fun k _ e => ⟨fun d => nD (e ▸ d), by omega⟩), h1, h2, h3.trans (E' := fun k => k = b) (fun k e => .inr (by omega)) m, h4⟩, hv', lo, nD, nE, nB⟩
theorem AZ.pop {nb : Nat} {key : El → Int} (hB : Bf nb key) {w : World} {D0 : Nat → Prop} {q n : Nat} {J : List El → (Nat → Prop) → World → Prop} (tJ : Ter w.heap.size J) {s : List El} {x : El} {rest : List El} {b : Nat} {v : El} {W : World} (h : AZ nb key w D0 q n J s (x :: rest) b v W) :
    Calls Tryz.prog 8 #[qp q] W fun e V => e = .returned (.tuple #[ev x, .int .i64 0]) ∧ AZ nb key w D0 q n J s rest b v V := by
  obtain ⟨D, E, B, ⟨u, j, h1, h2, h3, h4⟩, hv, lo, nD, nE, nB⟩ := h
  refine (pop_some hB u).mono ?_
  rintro e V ⟨rfl, E', B', u', m, g, gb⟩
  have lD := tJ.low _ _ _ j
  have szW := h3.size
  have lv := hv.lt
  refine ⟨rfl, D, E', B', ⟨u', tJ.keep _ _ _ _ j (m.mono fun k _ e => ⟨(h1 k e).2, (h1 k e).1⟩), fun k hk => ?_, fun k hk => ?_, h3.trans (E' := E) (fun k hk => .inr (h1 k hk).1) m, h4⟩, hv.mv m nE, lo, nD, fun hk => ?_, fun hk => ?_⟩
  · rcases g k hk with s | s
    · exact h1 k s
    · exact ⟨by omega, fun d => by have := lD k d; omega⟩
  · rcases gb k hk with s | s
    · exact h2 k s
    · exact fun d => by have := lD k d; omega
  · rcases g b hk with s | s
    · exact nE s
    · omega
  · rcases gb b hk with s | s
    · exact nB s
    · omega
theorem AZ.popn {nb : Nat} {key : El → Int} {w : World} {D0 : Nat → Prop} {q n : Nat} {J : List El → (Nat → Prop) → World → Prop} (tJ : Ter w.heap.size J) {s : List El} {b : Nat} {v : El} {W : World} (h : AZ nb key w D0 q n J s [] b v W) :
    Calls Tryz.prog 8 #[qp q] W fun e V => e = .returned (.tuple #[.agg #[.int .i64 0, .int .i64 0], .int .i64 130]) ∧ AZ nb key w D0 q n J s [] b v V := by
  obtain ⟨D, E, B, ⟨u, j, h1, h2, h3, h4⟩, hv, lo, nD, nE, nB⟩ := h
  refine (pop_none u).mono ?_
  rintro e V ⟨rfl, hb⟩
  exact ⟨rfl, D, E, B, ⟨u.mv (D := fun _ => False) (Mv.below hb) (fun _ _ h => h) (fun _ _ h => h), tJ.keep _ _ _ _ j (Mv.below hb), h1, h2, h3.trans' (Mv.below hb), h4⟩, hv.mv (D := fun _ => False) (Mv.below hb) (fun h => h), lo, nD, nE, nB⟩
theorem AS.popn {nb : Nat} {key : El → Int} {w : World} {D0 : Nat → Prop} {q n : Nat} {J : List El → (Nat → Prop) → World → Prop} (tJ : Ter w.heap.size J) {s : List El} {W : World} (h : AS nb key w D0 q n J s [] W) :
    Calls Tryz.prog 8 #[qp q] W fun e V => e = .returned (.tuple #[.agg #[.int .i64 0, .int .i64 0], .int .i64 130]) ∧ AS nb key w D0 q n J s [] V := by
  obtain ⟨D, E, B, u, j, h1, h2, h3, h4⟩ := h
  refine (pop_none u).mono ?_
  rintro e V ⟨rfl, hb⟩
  exact ⟨rfl, D, E, B, u.mv (D := fun _ => False) (Mv.below hb) (fun _ _ h => h) (fun _ _ h => h), tJ.keep _ _ _ _ j (Mv.below hb), h1, h2, h3.trans' (Mv.below hb), h4⟩
theorem AZ.take {nb : Nat} {key : El → Int} {w : World} {D0 : Nat → Prop} {q n : Nat} {J : List El → (Nat → Prop) → World → Prop} {Jx : (Nat → Prop) → World → Prop} {f : Nat} {caps : Array Value} (hT : Tak f caps J Jx) {x : El} {rest : List El} {b : Nat} {v : El} {W : World} (h : AZ nb key w D0 q n J (x :: rest) rest b v W) :
    Calls Tryz.prog f (#[ev x] ++ caps) W fun e V => (e = .returned (.bool true) ∧ AZ nb key w D0 q n J rest rest b v V) ∨ (e = .returned (.bool false) ∧ AE w D0 J Jx V) := by
  obtain ⟨D, E, B, ⟨u, j, h1, h2, h3, h4⟩, hv, lo, nD, nE, nB⟩ := h
  refine (hT x rest D W j).mono ?_
  rintro e V ⟨m, (⟨rfl, D', g, j'⟩ | ⟨rfl, D', g, j'⟩)⟩
  · obtain ⟨lE, lB⟩ := u.lt
    have lv := hv.lt
    refine .inl ⟨rfl, D', E, B, ⟨u.mv m (fun k hk => (h1 k hk).2) h2, j', fun k hk => ⟨(h1 k hk).1, fun d => ?_⟩, fun k hk d => ?_, h3.trans h4 m, h4.trans h3.size g⟩, hv.mv m nD, lo, fun d => ?_, nE, nB⟩
    · rcases g k d with s | s
      · exact (h1 k hk).2 s
      · have := lE k hk; omega
    · rcases g k d with s | s
      · exact h2 k hk s
      · have := lB k hk; omega
    · rcases g b d with s | s
      · exact nD s
      · omega
  · exact .inr ⟨rfl, h3.trans h4 m, D', h4.trans h3.size g, .inr j'⟩
set_option maxRecDepth 100000 in
set_option maxHeartbeats 4000000 in
theorem all_run {nb : Nat} {key : El → Int} (hB : Bf nb key) {w : World} {q bl : Nat} {E B : Nat → Prop} {L : List El} {n : Nat} (h : Qu nb key w q E B L n) (hbl : w.cell? ⟨bl, 0, none⟩ = some (qp q)) {f : Nat} {caps : Array Value} (eg : ∀ args w, (callFunc f args).run Tryz.prog w = .ok (.enter f args) w) {J : List El → (Nat → Prop) → World → Prop} {Jx : (Nat → Prop) → World → Prop} (tJ : Ter w.heap.size J) (hT : Tak f caps J Jx) {D : Nat → Prop} (h0 : J L D w) (hD : ∀ k, B k → ¬ D k) :
    Calls Tryz.prog 28 #[.func (.func f) #[] caps, .pointer (some ⟨bl, 0, none⟩)] w fun e V => e = .returned (.tuple #[]) ∧ AE w D J Jx V := by
  have hTw : Hid (Calls Tryz.prog 29 #[qp q] w fun e V => ∃ q', e = .returned (qp q') ∧ AS nb key w D q' n J L L V) := by
    refine (twin_any h).mono ?_
    rintro e V ⟨q', E', rfl, u, hE, hb⟩
    have lD := tJ.low _ _ _ h0
    exact ⟨q', rfl, D, E', B, u, tJ.keep _ _ _ _ h0 (Mv.below hb), fun k hk => ⟨hE k hk, fun d => by have := lD k d; have := hE k hk; omega⟩, hD, Mv.below hb, fun _ h => .inl h⟩
  have hPn : Hid (∀ q' s W, AS nb key w D q' n J s [] W → _) := fun q' s W hA => AS.popn tJ hA
  have hPs : Hid (∀ q' s x rest W, AS nb key w D q' n J s (x :: rest) W → _) := fun q' s x rest W hA => AS.pop hB tJ hA
  have hXn : Hid (∀ q' s b v W, AZ nb key w D q' n J s [] b v W → _) := fun q' s b v W hA => AZ.popn tJ hA
  have hXs : Hid (∀ q' s x rest b v W, AZ nb key w D q' n J s (x :: rest) b v W → _) := fun q' s x rest b v W hA => AZ.pop hB tJ hA
  have hTk : Hid (∀ q' x rest b v W, AZ nb key w D q' n J (x :: rest) rest b v W → _) := fun q' x rest b v W hA => AZ.take hT hA
  have hBx : Hid (∀ q' s rest W, AS nb key w D q' n J s rest W → ∀ x, _) := fun q' s rest W hA x => AS.box tJ hA x
  have hPt : Hid (∀ q' s rest b v W, AZ nb key w D q' n J s rest b v W → ∀ x, _) := fun q' s rest b v W hA x => AZ.put tJ hA x
  have hEnd : Hid (∀ q' W, AS nb key w D q' n J [] [] W → AE w D J Jx W) := fun q' W hA => by
    obtain ⟨D', _, _, _, j, _, _, m, g⟩ := hA
    exact ⟨m, D', g, .inl j⟩
  clear h hB tJ hT h0 hD
  unfold qp at *
  go_enter Tryz.func28, Tryz.ntmps28
  go_wp2_with fail
  refine hTw.out.mono ?_
  rintro e W1 ⟨q', rfl, hA⟩
  have hAH := hidP hA
  clear hA hTw
  cases L with
  | nil =>
    have hP := hidP (hPn.out q' _ W1 hAH.out)
    go_wp2_with fail
    refine hP.out.mono ?_
    rintro e W2 ⟨rfl, hA2⟩
    obtain ⟨V2, hV2, hX2⟩ := hBx.out q' _ _ W2 hA2 (0, 0)
    obtain ⟨b2, hb2⟩ : ∃ b2, W2.heap.size = b2 := ⟨_, rfl⟩
    have hX2H := hidP hX2
    clear hP hA2 hX2 hAH
    change W2.alloc (.cells #[.int .i64 0, .int .i64 0] 27) = V2 at hV2
    have hV2H := hidP hV2
    clear hV2
    go_wp2_with fail
    go_loopw [4, 5] (fun a b wr => a = .pointer (some ⟨b2, 0, none⟩) ∧ b = .int .i64 130 ∧ Hid (wr = V2)) (fun _ _ _ => 0)
    case atStart => exact ⟨rfl, rfl, hV2H⟩
    case round =>
      obtain ⟨rfl, rfl, hw⟩ := hrel
      obtain rfl := hw.out
      have fin := hidP (hEnd.out q' _ hX2H.out.as)
      go_wp2_with fail
      go_end0
      exact ⟨rfl, fin.out⟩
  | cons x L =>
    have hP := hidP (hPs.out q' _ x L W1 hAH.out)
    clear hAH
    go_wp2_with fail
    refine hP.out.mono ?_
    rintro e W2 ⟨rfl, hA⟩
    obtain ⟨V2, hV2, hX2⟩ := hBx.out q' _ _ W2 hA x
    obtain ⟨b2, hb2⟩ : ∃ b2, W2.heap.size = b2 := ⟨_, rfl⟩
    rw [hb2] at hX2
    have hX2H := hidP hX2
    clear hP hA hX2
    go_wp2_with (rw [hV2])
    go_loopg [4, 5] (L.length + 1) (fun k s4 s5 wr => (∃ x rest b, s4 = .pointer (some ⟨b, 0, none⟩) ∧ s5 = .int .i64 0 ∧ rest.length + 1 = k ∧ Hid (AZ nb key w D q' n J (x :: rest) rest b x wr)) ∨ (∃ b, s4 = .pointer (some ⟨b, 0, none⟩) ∧ s5 = .int .i64 130 ∧ Hid (AS nb key w D q' n J [] [] wr)))
    case atStart => exact .inl ⟨x, L, b2, rfl, rfl, rfl, hX2H⟩
    case round =>
      clear hb2 hV2 hX2H
      rcases hrel with ⟨y, rest, b, rfl, rfl, hk, hA⟩ | ⟨b, rfl, rfl, hA⟩
      · have hT := hidP (hTk.out q' y rest b y wr hA.out)
        obtain ⟨yc, _, _⟩ := hA.out.bv
        have hkH := hidP hk
        clear hA hk
        go_wp2_with fail
        refine hT.out.mono ?_
        rintro e W3 (⟨rfl, hA3⟩ | ⟨rfl, hE⟩)
        · obtain ⟨yc3, _, _⟩ := hA3.bv
          obtain ⟨V3, hV3, hX3⟩ := hBx.out q' _ _ W3 hA3.as y
          obtain ⟨b3, hb3⟩ : ∃ b3, W3.heap.size = b3 := ⟨_, rfl⟩
          rw [hb3] at hX3
          clear hT hA3 yc
          cases rest with
          | nil =>
            have hP := hidP (hXn.out q' _ b3 y V3 hX3)
            clear hX3
            go_wp2_with (rw [hV3])
            refine hP.out.mono ?_
            rintro e W4 ⟨rfl, hA4⟩
            obtain ⟨V5, hV5, hX5⟩ := hPt.out q' _ _ b3 y W4 hA4 (0, 0)
            obtain ⟨yc4, yf4, _⟩ := hA4.bv
            have hX5H := hidP hX5
            change ((W4.setCell ⟨b3, 0, none⟩ (.int .i64 0)).setCell ⟨b3, 1, none⟩ (.int .i64 0)) = V5 at hV5
            clear hP hA4 hX5 yc3 hV3
            go_wp2_with (rw [hV5])
            go_roundg 0
            case measure => have := hkH.out; simp at this; omega
            case rel => exact .inr ⟨b3, rfl, rfl, hidP hX5H.out.as⟩
          | cons z R =>
            have hP := hidP (hXs.out q' _ z R b3 y V3 hX3)
            clear hX3
            go_wp2_with (rw [hV3])
            refine hP.out.mono ?_
            rintro e W4 ⟨rfl, hA4⟩
            obtain ⟨V5, hV5, hX5⟩ := hPt.out q' _ _ b3 y W4 hA4 z
            obtain ⟨yc4, yf4, _⟩ := hA4.bv
            have hX5H := hidP hX5
            clear hP hA4 hX5 yc3 hV3
            go_wp2_with (rw [hV5])
            go_roundg (R.length + 1)
            case measure => have := hkH.out; simp at this; omega
            case rel => exact .inl ⟨z, R, b3, rfl, rfl, rfl, hX5H⟩
        · have hEH := hidP hE
          clear hT hE
          go_wp2_with fail
          refine bodyPost_ret (results_none rfl _ _ _) rfl ?_
          exact ⟨rfl, hEH.out⟩
      · have fin := hidP (hEnd.out q' _ hA.out)
        go_wp2_with fail
        go_end0
        exact ⟨rfl, fin.out⟩
end Go.Proofs.YteimalemecgomaaGreat.Qt
