import Derived.Test.YtdcidlgmnnaahaaGreatBae
/- The row of trees from the end on. -/
namespace Go.Proofs.YtdcidlgmnnaahaaGreat.Qw
open Go.RowKit Go.Shelf Go.Lib
attribute [local go_sem] Oper.semAt_some
def encX (p : Nat × Rec) : Array Value := #[.int .i64 p.1, p.2.val]
/-- What is left of the row lies in memory. -/
def LB (g o : Nat) (s : List (Nat × Rec)) (W : World) : Prop := ∀ p ∈ s, (W.cell? ⟨g, o + p.1 * 8, none⟩ = some (vc0 p.2.v) ∧ W.cell? ⟨g, o + p.1 * 8 + 1, none⟩ = some (vc1 p.2.v) ∧ W.cell? ⟨g, o + p.1 * 8 + 2, none⟩ = some (vc2 p.2.v) ∧ W.cell? ⟨g, o + p.1 * 8 + 3, none⟩ = some (vc3 p.2.v) ∧ W.cell? ⟨g, o + p.1 * 8 + 4, none⟩ = some (vc4 p.2.v) ∧ W.cell? ⟨g, o + p.1 * 8 + 5, none⟩ = some (vc5 p.2.v)) ∧ W.cell? ⟨g, o + p.1 * 8 + 6, none⟩ = some (.int .i64 p.2.t) ∧ W.cell? ⟨g, o + p.1 * 8 + 7, none⟩ = some (ptrV p.2.p)
set_option maxRecDepth 100000 in
set_option maxHeartbeats 2000000 in
theorem back_row (l : List Rec) (b g o cap : Nat) (E : Nat → Prop) (W : World) (cv : W.cell? ⟨b, 0, none⟩ = some (slv g o l.length cap)) (eb : ¬ E b) (hl : l.length ≤ 1000000) :
    RowS Tryz.prog 109 #[.pointer (some ⟨b, 0, none⟩)] encX (fun _ => false) (LB g o) (bk l l.length) E W := by
  intro u J Jx E1 V m gr hJ hJx hL hsk hY h0
  have d1 := m.cell (a := ⟨b, 0, none⟩) eb cv
  have f1 : ¬ E1 b := gr.free (cell_lt cv) eb
  obtain ⟨n, hn⟩ : ∃ n, l.length = n := ⟨_, rfl⟩
  rw [hn] at d1 h0 hl
  have hN : Hid (l.length = n) := hn
  have hLH := hidP hL
  have hYH := hidP hY
  clear hn cv hL hsk hY
  unfold slv at d1
  refine (callsIn_wide (n := 5)).1 ?_
  refine callsIn_of_wp Tryz.func109 rfl trivial ?_ rfl
  simp only [Tryz.ntmps109, List.size_toArray, List.length_cons, List.length_nil, Nat.reduceAdd, Nat.reduceSub, Array.replicate_succ, Array.replicate_zero, List.push_toArray, List.append_toArray, List.nil_append, List.cons_append]
  gi_wp2
  gi_loopw [3] (fun i wr => ∃ (k : Nat) (z : Int) (E2 : Nat → Prop), k ≤ n ∧ z + 1 = k ∧ i = .int .i64 z ∧ J (bk l k) E2 wr ∧ Mv E1 V wr ∧ Gr E1 V E2) (fun i _ => (intOf i + 1).toNat)
  case atStart => exact ⟨n, _, E1, Nat.le_refl _, by omega, rfl, h0, Mv.refl _ _, Gr.refl _ _⟩
  case round =>
    obtain ⟨k, z, E2, k0, hz, rfl, hj, hm, hg⟩ := hrel
    have d3 := hm.cell (a := ⟨b, 0, none⟩) f1 d1
    cases k with
    | succ j =>
      obtain rfl : z = (j : Int) := by omega
      obtain ⟨x, hx⟩ : ∃ x, l[j]? = some x := ⟨_, List.getElem?_eq_getElem (by rw [hN.out]; omega)⟩
      rw [bk_succ hx] at hj
      obtain ⟨p0, p1, p2⟩ := hLH.out _ _ _ hj (j, x) (List.mem_cons_self ..)
      obtain ⟨fn, tmps, assign, body, hy, hR⟩ := hYH.out (j, x) _ E2 wr rfl hj
      dsimp only [encX, Rec.val] at hy p0 p1 p2
      have hjn : (j : Int) < (n : Int) := by omega
      clear hz hx
      gi_wp2
      refine (wide_round' hR).mono ?_
      rintro e W3 ⟨m3, (⟨rfl, E3, g3, hj3⟩ | ⟨rfl, E3, g3, hj3⟩)⟩
      · gi_wp2
        exact ⟨⟨j, _, E3, by omega, by omega, rfl, hj3, hm.trans hg m3, hg.trans hm.size g3⟩, by simp [intOf]⟩
      · gi_wp2
        refine bodyPost_ret (results_none rfl _ _ _) rfl ?_
        exact ⟨⟨_, rfl⟩, hm.trans hg m3, .inr ⟨E3, hg.trans hm.size g3, hj3⟩⟩
    | zero =>
      obtain rfl : z = -1 := by omega
      gi_wp2
      go_end0
      exact ⟨⟨_, rfl⟩, hm, .inl ⟨E2, hg, hj⟩⟩
set_option maxRecDepth 100000 in
set_option maxHeartbeats 1000000 in
theorem back_any (g o n c : Nat) (w : World) : Calls Tryz.prog 89 #[slv g o n c] w fun e w' => e = .returned (.func (.func 109) #[] #[.pointer (some ⟨w.heap.size, 0, none⟩)]) ∧ w' = w.alloc (.cells #[slv g o n c] 52) := by
  unfold slv
  go_enter Tryz.func89, Tryz.ntmps89
  go_wp2_with fail
  go_ret
  exact ⟨rfl, rfl⟩
end Go.Proofs.YtdcidlgmnnaahaaGreat.Qw
/- Whether a tree waits behind one of others. -/
namespace Go.Proofs.YtdcidlgmnnaahaaGreat.Qw
open Go.RowKit Go.Shelf Go.Lib
attribute [local go_sem] Oper.semAt_some
/-- t waits behind the i-th of the records: block b is its list's. -/
structure Wt (key : El → Int) (xs : List Rec) (t : Rec) (g o : Nat) (n : Nat) (i : Nat) (x : Rec) (b : Nat) (W : World) : Prop where
  at_ : xs[i]? = some x
  ah : key x.v < key t.v
  last : ∀ j y, i < j → xs[j]? = some y → ¬ key y.v < key t.v
  nw : n ≤ b
  c0 : (W.cell? ⟨b, 0, none⟩ = some (vc0 t.v) ∧ W.cell? ⟨b, 1, none⟩ = some (vc1 t.v) ∧ W.cell? ⟨b, 2, none⟩ = some (vc2 t.v) ∧ W.cell? ⟨b, 3, none⟩ = some (vc3 t.v) ∧ W.cell? ⟨b, 4, none⟩ = some (vc4 t.v) ∧ W.cell? ⟨b, 5, none⟩ = some (vc5 t.v))
  c1 : W.cell? ⟨b, 6, none⟩ = some (.int .i64 t.t)
  c2 : W.cell? ⟨b, 7, none⟩ = some (ptrV t.p)
  c3 : W.cell? ⟨b, 8, none⟩ = some (ptrV x.p)
  cg : W.cell? ⟨g, o + i * 8 + 7, none⟩ = some (ptrV (some b))
theorem Wt.mv {key : El → Int} {xs : List Rec} {t : Rec} {g o n i : Nat} {x : Rec} {b : Nat} {W V : World} {F : Nat → Prop} (h : Wt key xs t g o n i x b W) (m : Mv F W V) (hg : ¬ F g) (hb : ¬ F b) : Wt key xs t g o n i x b V :=
  ⟨h.at_, h.ah, h.last, h.nw, ⟨m.cell (a := ⟨b, 0, none⟩) hb h.c0.1, m.cell (a := ⟨b, 1, none⟩) hb h.c0.2.1, m.cell (a := ⟨b, 2, none⟩) hb h.c0.2.2.1, m.cell (a := ⟨b, 3, none⟩) hb h.c0.2.2.2.1, m.cell (a := ⟨b, 4, none⟩) hb h.c0.2.2.2.2.1, m.cell (a := ⟨b, 5, none⟩) hb h.c0.2.2.2.2.2⟩, m.cell (a := ⟨b, 6, none⟩) hb h.c1, m.cell (a := ⟨b, 7, none⟩) hb h.c2, m.cell (a := ⟨b, 8, none⟩) hb h.c3, m.cell (a := ⟨g, o + i * 8 + 7, none⟩) hg h.cg⟩
/-- What waits tells. -/
def WP (key : El → Int) (xs : List Rec) (t : Rec) (g o : Nat) (w : World) (e : Ending) (w' : World) : Prop :=
  (e = .returned (.bool false) ∧ (∀ x ∈ xs, ¬ key x.v < key t.v) ∧ Below w.heap.size w w') ∨
      (∃ i x b, e = .returned (.bool true) ∧ Wt key xs t g o w.heap.size i x b w' ∧ Cv (fun k j => k = g ∧ j = o + i * 8 + 7) w w')
/-- How far the loop has come: nothing has turned. -/
def WI (key : El → Int) (xs : List Rec) (t : Rec) (g n : Nat) (w5 : World) (rest : List (Nat × Rec)) (E : Nat → Prop) (W : World) : Prop :=
  (∀ k, E k ↔ (k = g ∨ k = n + 3)) ∧ Below w5.heap.size w5 W ∧ ∃ k, k ≤ xs.length ∧ rest = bk xs k ∧ ∀ j y, k ≤ j → xs[j]? = some y → ¬ key y.v < key t.v
def WX (key : El → Int) (xs : List Rec) (t : Rec) (g o n : Nat) (w5 : World) (c : Code) (E : Nat → Prop) (W : World) : Prop :=
  c = .ret ∧ ∃ i x b, (∀ k, E k ↔ (k = g ∨ k = n + 3 ∨ k = b)) ∧ Wt key xs t g o w5.heap.size i x b W ∧ W.cell? ⟨n + 3, 0, none⟩ = some (.bool true) ∧ Cv (fun k j => (k = g ∧ j = o + i * 8 + 7) ∨ k = n + 3) w5 W
theorem WI.ter {key : El → Int} {xs : List Rec} {t : Rec} {g n : Nat} {w5 : World} (hg : g < w5.heap.size) (hn : n + 3 < w5.heap.size) : Ter w5.heap.size (WI key xs t g n w5) :=
  ⟨fun s E W V h m => ⟨h.1, bmv h.2.1 (Nat.le_refl _) m (fun k f => f.2), h.2.2⟩, fun s E W h k hk => by
    have := h.2.1.size
    rcases (h.1 k).1 hk with rfl | rfl <;> omega⟩
theorem WX.ter {key : El → Int} {xs : List Rec} {t : Rec} {g o n : Nat} {w5 : World} (hg : g < w5.heap.size) (hn : n + 3 < w5.heap.size) : Ter w5.heap.size (WX key xs t g o n w5) :=
  ⟨fun s E W V h m => by
    obtain ⟨rfl, i, x, b, hE, hw, hc, hv⟩ := h
    exact ⟨rfl, i, x, b, hE, hw.mv m (fun f => f.1 ((hE g).2 (.inl rfl))) (fun f => f.1 ((hE b).2 (.inr (.inr rfl)))), m.cell (a := ⟨n + 3, 0, none⟩) (fun f => f.1 ((hE _).2 (.inr (.inl rfl)))) hc, hv.next m (fun k f => f.2)⟩, fun s E W h k hk => by
    obtain ⟨rfl, i, x, b, hE, hw, hc, hv⟩ := h
    have := hv.size
    rcases (hE k).1 hk with rfl | rfl | rfl
    · omega
    · omega
    · exact cell_lt hw.c0.1⟩
set_option maxRecDepth 100000 in
set_option maxHeartbeats 4000000 in
theorem waits_any {nb : NB} {key : El → Int} (hB : Bf nb key) (q : Nat) (t : Rec) {g o cap : Nat} {xs : List Rec} (w : World) (hq : w.cell? ⟨q, 0, none⟩ = some (fnV nb)) (hx : RS w g o cap xs) (hl : xs.length ≤ 1000000) :
    Calls Tryz.prog 78 #[.pointer (some ⟨q, 0, none⟩), t.val, slv g o xs.length cap] w (WP key xs t g o w) := by
  obtain ⟨W0, hW0⟩ : ∃ W0, (((w.alloc (.cells #[.pointer (some ⟨q, 0, none⟩)] 58)).alloc (.cells #[vc0 t.v, vc1 t.v, vc2 t.v, vc3 t.v, vc4 t.v, vc5 t.v, .int .i64 t.t, ptrV t.p] 94)).alloc (.cells #[slv g o xs.length cap] 52)).alloc (.cells #[.bool false] 4) = W0 := ⟨_, rfl⟩
  obtain ⟨w5, hw5⟩ : ∃ w5, W0.alloc (.cells #[slv g o xs.length cap] 52) = w5 := ⟨_, rfl⟩
  obtain ⟨n, hn⟩ : ∃ n, w.heap.size = n := ⟨_, rfl⟩
  have hs0 : W0.heap.size = n + 4 := by rw [← hW0]; simp [hn]
  have hs5 : w5.heap.size = n + 5 := by rw [← hw5]; simp [hs0]
  have b0 : Below n w W0 := by rw [← hW0, ← hn]; exact ((((Below.refl _ _).alloc (Nat.le_refl _) _).alloc (by simp) _).alloc (by simp; omega) _).alloc (by simp; omega) _
  have b5 : Below n w w5 := by rw [← hw5]; exact b0.alloc (by omega) _
  have k0 : W0.cell? ⟨n, 0, none⟩ = some (.pointer (some ⟨q, 0, none⟩)) := by
    rw [← hW0]; exact (Mv.alloc (fun _ => False) _ _).cell (fun h => h) ((Mv.alloc (fun _ => False) _ _).cell (fun h => h) ((Mv.alloc (fun _ => False) _ _).cell (fun h => h) (cell_at hn rfl)))
  have k1 : ∀ j u, #[vc0 t.v, vc1 t.v, vc2 t.v, vc3 t.v, vc4 t.v, vc5 t.v, .int .i64 t.t, ptrV t.p][j]? = some u → W0.cell? ⟨n + 1, j, none⟩ = some u := fun j u hj => by
    rw [← hW0]; exact (Mv.alloc (fun _ => False) _ _).cell (fun h => h) ((Mv.alloc (fun _ => False) _ _).cell (fun h => h) (cell_at (by simp [hn]) hj))
  have k2 : W0.cell? ⟨n + 2, 0, none⟩ = some (slv g o xs.length cap) := by
    rw [← hW0]; exact (Mv.alloc (fun _ => False) _ _).cell (fun h => h) (cell_at (by simp [hn]) rfl)
  have k3 : W0.cell? ⟨n + 3, 0, none⟩ = some (.bool false) := by rw [← hW0]; exact cell_at (by simp [hn]) rfl
  have f3 : W0.frozen? ⟨n + 3, 0, none⟩ = false := by rw [← hW0]; exact froz_new (by simp [hn])
  have m5 : ∀ F, Mv F W0 w5 := fun F => by rw [← hw5]; exact Mv.alloc _ _ _
  have c0 : Hid (∀ V, Below w5.heap.size w5 V → V.cell? ⟨n, 0, none⟩ = some (.pointer (some ⟨q, 0, none⟩)) ∧ (∀ j u, #[vc0 t.v, vc1 t.v, vc2 t.v, vc3 t.v, vc4 t.v, vc5 t.v, .int .i64 t.t, ptrV t.p][j]? = some u → V.cell? ⟨n + 1, j, none⟩ = some u) ∧ V.cell? ⟨n + 2, 0, none⟩ = some (slv g o xs.length cap) ∧ V.cell? ⟨n + 3, 0, none⟩ = some (.bool false) ∧ V.frozen? ⟨n + 3, 0, none⟩ = false ∧ V.cell? ⟨q, 0, none⟩ = some (fnV nb) ∧ RS V g o cap xs) := by
    intro V hV
    have r5 := hx.cv (S := fun _ _ => False) (Cv.below (hn ▸ b5)) (fun _ _ _ h => h)
    refine ⟨bcell hV (by omega) ((m5 fun _ => False).cell (a := ⟨n, 0, none⟩) (fun h => h) k0), fun j u hj => bcell hV (by omega) ((m5 fun _ => False).cell (a := ⟨n + 1, j, none⟩) (fun h => h) (k1 j u hj)), bcell hV (by omega) ((m5 fun _ => False).cell (a := ⟨n + 2, 0, none⟩) (fun h => h) k2), bcell hV (by omega) ((m5 fun _ => False).cell (a := ⟨n + 3, 0, none⟩) (fun h => h) k3), ?_, ?_, r5.cv (S := fun _ _ => False) (Cv.below hV) (fun _ _ _ h => h)⟩
    · rw [bfroz hV (by omega), (m5 fun _ => False).froz (a := ⟨n + 3, 0, none⟩) (fun h => h) (by show n + 3 < _; omega)]; exact f3
    · have : q < n := by rw [← hn]; exact cell_lt hq
      exact bcell hV (by omega) (bcell b5 this hq)
  have hgl : g < n := by rw [← hn]; exact hx.rm.lt
  have hC := hidP (back_any g o xs.length cap W0)
  have hBH := hidP hB
  have b5H := hidP b5
  have k2s := k2
  unfold slv at k2s
  have hxH := hidP hx
  have hqH := hidP hq
  clear hq hx k0 k1 k2 k3 f3 b0 b5 hB
  unfold Rec.val
  refine (callsIn_wide (n := 5)).1 ?_
  refine callsIn_of_wp_marks Tryz.func78 rfl trivial ?_ rfl
  simp only [Tryz.ntmps78, List.size_toArray, List.length_cons, List.length_nil, Nat.reduceAdd, Nat.reduceSub, Array.replicate_succ, Array.replicate_zero, List.push_toArray, List.append_toArray, List.nil_append, List.cons_append]
  gi_wp2_with (rw [hW0])
  refine ⟨trivial, (callsIn_wide.2 hC.out).mono ?_⟩
  rintro e w6 ⟨rfl, hw6⟩
  obtain rfl : w6 = w5 := hw6.trans hw5
  rw [hs0]
  have cb : w6.cell? ⟨n + 4, 0, none⟩ = some (slv g o xs.length cap) := by rw [hw6]; exact cell_at hs0 rfl
  have mW5 := hidP m5
  have hs0H := hidP hs0
  have hs5H := hidP hs5
  have hnH := hidP hn
  clear hC k2s hw6 hw5 hW0 m5 hs0 hs5
  gi_wp2_with fail
  have hs5 := hs5H.out
  have tI : Ter w6.heap.size (WI key xs t g n w6) := WI.ter (by omega) (by omega)
  have tX : Ter w6.heap.size (WX key xs t g o n w6) := WX.ter (by omega) (by omega)
  have hLL : ∀ s E W, WI key xs t g n w6 s E W → LB g o s W := fun s E W h p hp => by
    obtain ⟨_, hb, k, hk, rfl, _⟩ := h
    exact (c0.out W hb).2.2.2.2.2.2.ra.at (bk_mem hp)
  clear hs5
  refine loop_outS (gf := 109) (lb := #[.pointer (some ⟨n + 4, 0, none⟩)]) rfl (enters_of Tryz.func109 (by kernel_rfl) rfl)
    (back_row xs (n + 4) g o cap (fun k => k = g ∨ k = n + 3) w6 cb (by omega) hl) (fun _ => rfl) (WI key xs t g n w6) (WX key xs t g o n w6) tI tX hLL (fun x rest E W h => by cases h) ⟨fun _ => Iff.rfl, Below.refl _ _, xs.length, Nat.le_refl _, rfl, fun j y hj hy => by have := (List.getElem?_eq_some_iff.1 hy).1; omega⟩ ?round ?done ?stop
  case round =>
    rintro l9 hl9 ⟨i, x⟩ rest E2 U hxs hi hm hg hEl hrec
    have hltH : Hid (l9 < U.heap.size) := by obtain ⟨r, hr⟩ := hrec; exact (Array.getElem?_eq_some_iff.1 hr).1
    have hrecH := hidP hrec
    clear hrec
    have hxi : Hid (∃ k, k = i + 1 ∧ xs[i]? = some x ∧ rest = bk xs i ∧ ∀ j y, k ≤ j → xs[j]? = some y → ¬ key y.v < key t.v) := by
      obtain ⟨_, _, k, hk, hr, hno⟩ := hi
      obtain ⟨h1, h2, h3⟩ := bk_cons hk hr.symm
      exact ⟨k, h1, h2, h3, hno⟩
    simp only [encX, Rec.val]
    gi_wp2_with fail
    refine ⟨⟨Mv.alloc _ _ _, Below.heap_alloc _ _ _ hltH.out⟩, fun U2 tw => ?_⟩
    obtain ⟨hi2, hm2⟩ := tw.go tI hi (Mv.alloc _ _ _) hm (Nat.le_refl _) hl9 hEl
    have bx : ∀ j u, #[vc0 x.v, vc1 x.v, vc2 x.v, vc3 x.v, vc4 x.v, vc5 x.v, Value.int .i64 x.t, ptrV x.p][j]? = some u → U2.cell? ⟨U.heap.size, j, none⟩ = some u := fun j u hj => tw.mv.cell (a := ⟨U.heap.size, j, none⟩) (by have := hltH.out; show ¬ U.heap.size = l9; omega) (cell_at rfl hj)
    have x0 := (⟨bx 0 _ rfl, bx 1 _ rfl, bx 2 _ rfl, bx 3 _ rfl, bx 4 _ rfl, bx 5 _ rfl⟩ : _ ∧ _ ∧ _ ∧ _ ∧ _ ∧ _)
    have x2 := bx 7 _ rfl
    have hUw : Hid (w6.heap.size ≤ U.heap.size) := hm.size
    obtain ⟨hE, hb2, _⟩ := hi2
    obtain ⟨y0, y1, y2, y3, y4, y5, y6⟩ := c0.out U2 hb2
    have z0 := (⟨y1 0 _ rfl, y1 1 _ rfl, y1 2 _ rfl, y1 3 _ rfl, y1 4 _ rfl, y1 5 _ rfl⟩ : _ ∧ _ ∧ _ ∧ _ ∧ _ ∧ _)
    have hA := ahead_any hBH.out q x.v t.v U2 y5
    have hb2H := hidP hb2
    have hEH := hidP hE
    have y6H := hidP y6
    have hU2 : Hid (U2.heap.size = U.heap.size + 1) := by show _ = _; have := tw.size; simpa using this
    have bxH := hidP bx
    clear bx hi hm tw hm2 hb2 hE y1 y2 y3 y4 y5 y6 x2 hxs
    gi_wp2_with fail
    refine ⟨trivial, (callsIn_wide.2 hA).mono ?_⟩
    rintro e W3 ⟨rfl, hb3⟩
    by_cases hlt : key x.v < key t.v
    · rw [show decide (key x.v < key t.v) = true from decide_eq_true hlt]
      have hb63 : Below w6.heap.size w6 W3 := hb2H.out.trans (hb3.mono (by have := hb2H.out.size; omega))
      obtain ⟨a0, a1, a2, a3, a4, a5, a6⟩ := c0.out W3 hb63
      have d0 := (⟨a1 0 _ rfl, a1 1 _ rfl, a1 2 _ rfl, a1 3 _ rfl, a1 4 _ rfl, a1 5 _ rfl⟩ : _ ∧ _ ∧ _ ∧ _ ∧ _ ∧ _)
      have d1 := a1 6 _ rfl
      have d2 := a1 7 _ rfl
      have x2 := bcell hb3 (by have := hU2.out; omega) (bxH.out 7 _ rfl)
      have hsW3 : Hid (U2.heap.size ≤ W3.heap.size) := hb3.size
      have hi63 := hidP hb63
      have a6H := hidP a6
      obtain ⟨k, rfl, hx1, rfl, hno⟩ := hxi.out
      have hx1H := hidP hx1
      have hnoH := hidP hno
      have hil : (i : Int) < (xs.length : Int) := by have := (List.getElem?_eq_some_iff.1 hx1).1; omega
      obtain ⟨e0, e1, e2⟩ := a6.ra.at hx1
      have ef := a6.rm.fz (i * 8 + 7) (by have := a6.le; omega)
      rw [← Nat.add_assoc] at ef
      have hb3H := hidP hb3
      obtain ⟨A, hAA⟩ : ∃ A, W3.alloc (.cells #[vc0 t.v, vc1 t.v, vc2 t.v, vc3 t.v, vc4 t.v, vc5 t.v, .int .i64 t.t, ptrV t.p, ptrV x.p] 135) = A := ⟨_, rfl⟩
      obtain ⟨N, hN⟩ : ∃ N, W3.heap.size = N := ⟨_, rfl⟩
      obtain ⟨A2, hA2⟩ : ∃ A2, A.setCell ⟨g, o + i * 8 + 7, none⟩ (.pointer (some ⟨N, 0, none⟩)) = A2 := ⟨_, rfl⟩
      obtain ⟨A3, hA3⟩ : ∃ A3, A2.setCell ⟨n + 1 + 1 + 1, 0, none⟩ (.bool true) = A3 := ⟨_, rfl⟩
      have hsN : w6.heap.size ≤ N := by rw [← hN]; exact hb63.size
      have h56 := hs5H.out
      have mA : ∀ F, Mv F W3 A := fun F => by rw [← hAA]; exact Mv.alloc _ _ _
      have gA := (mA fun _ => False).cell (a := ⟨g, o + i * 8 + 7, none⟩) (fun h => h) e2
      have gf : A.frozen? ⟨g, o + i * 8 + 7, none⟩ = false := by rw [(mA fun _ => False).froz (a := ⟨g, o + i * 8 + 7, none⟩) (fun h => h) (by show g < _; omega)]; exact ef
      have v2 : Cv (fun k j => k = g ∧ j = o + i * 8 + 7) A A2 := by rw [← hA2]; exact Cv.one _ _ _ _
      have v3 : Cv (fun k j => k = n + 3 ∧ j = 0) A2 A3 := by rw [← hA3]; exact Cv.one _ _ _ _
      have ng : n + 3 ≠ g := by omega
      have r2 : A2.cell? ⟨n + 1 + 1 + 1, 0, none⟩ = some (.bool false) := v2.cell (k := n + 3) (fun h => ng h.1) ((mA fun _ => False).cell (a := ⟨n + 3, 0, none⟩) (fun h => h) a3)
      have rf : A2.frozen? ⟨n + 1 + 1 + 1, 0, none⟩ = false := by
        have e1 := v2.fr (n + 3) 0 (by rw [← hAA]; simp; omega)
        rw [show n + 1 + 1 + 1 = n + 3 from rfl, e1, (mA fun _ => False).froz (a := ⟨n + 3, 0, none⟩) (fun h => h) (by show n + 3 < _; omega)]; exact a4
      have nbk : ∀ j u, #[vc0 t.v, vc1 t.v, vc2 t.v, vc3 t.v, vc4 t.v, vc5 t.v, .int .i64 t.t, ptrV t.p, ptrV x.p][j]? = some u → A3.cell? ⟨N, j, none⟩ = some u := fun j u hj => by
        have c1 : A.cell? ⟨N, j, none⟩ = some u := by rw [← hAA]; exact cell_at hN hj
        have : g < N := by omega
        exact v3.cell (fun h => by have := h.1; omega) (v2.cell (fun h => by have := h.1; omega) c1)
      have cgA : A3.cell? ⟨g, o + i * 8 + 7, none⟩ = some (ptrV (some N)) := v3.cell (fun h => ng h.1.symm) (by rw [← hA2]; exact World.cell?_setCell_same _ _ _ gA)
      have crA : A3.cell? ⟨n + 3, 0, none⟩ = some (.bool true) := by rw [← hA3]; exact World.cell?_setCell_same _ _ _ r2
      have vv : Cv (fun k j => (k = g ∧ j = o + i * 8 + 7) ∨ k = n + 3) w6 A3 := by
        have hba : Below w6.heap.size w6 A := bmv hb63 (Nat.le_refl _) (mA fun _ => False) (fun _ h => h.elim)
        exact ((Cv.below hba).trans (v2.mono (T := fun k j => k = g ∧ j = o + i * 8 + 7) fun _ _ _ h => h) (fun k j h => .inl (.inl h))).trans v3 (fun k j h => .inl (.inr h.1))
      have fin : Hid (Mv E2 U2 A3 ∧ ∃ E', Gr E2 U2 E' ∧ WX key xs t g o n w6 .ret E' A3) := by
        have q2 : Mv E2 A A2 := v2.mv.mono fun k _ h => by obtain ⟨j, h, _⟩ := h; exact (hEH.out k).2 (.inl h)
        have q3 : Mv E2 A2 A3 := v3.mv.mono fun k _ h => by obtain ⟨j, h, _⟩ := h; exact (hEH.out k).2 (.inr h)
        refine ⟨(((Mv.below hb3).trans' (mA _)).trans' q2).trans' q3, fun k => E2 k ∨ k = N, fun k hk => hk.imp id (fun e => by rw [e, ← hN]; exact hb3.size), rfl, i, x, N, fun k => ⟨fun h => h.elim (fun h => ((hEH.out k).1 h).imp id .inl) (fun h => .inr (.inr h)), fun h => by
          rcases h with h | h | h
          · exact .inl ((hEH.out k).2 (.inl h))
          · exact .inl ((hEH.out k).2 (.inr h))
          · exact .inr h⟩, ⟨hx1, hlt, fun j y hj hy => by have := hno j y hj hy; omega, hsN, ⟨nbk 0 _ rfl, nbk 1 _ rfl, nbk 2 _ rfl, nbk 3 _ rfl, nbk 4 _ rfl, nbk 5 _ rfl⟩, nbk 6 _ rfl, nbk 7 _ rfl, nbk 8 _ rfl, cgA⟩, crA, vv⟩
      have hNH := hidP hN
      clear nbk cgA crA vv v2 v3 mA hsN h56 ng hN
      clear hA hb3 hno hx1 x0 z0 y0 a1 a5 a6 hb63 e0 e1
      unfold slv at a2
      gi_wp2_with (first | rw [hAA] | rw [hNH.out] | rw [hA2] | rw [hA3])
      exact fin.out
    · rw [show decide (key x.v < key t.v) = false from decide_eq_false hlt]
      obtain ⟨k, rfl, hx1, rfl, hno⟩ := hxi.out
      have fin : Hid (WI key xs t g n w6 (bk xs i) E2 W3) := ⟨hEH.out, hb2H.out.trans (hb3.mono (by have := hb2H.out.size; omega)), i, by have := (List.getElem?_eq_some_iff.1 hx1).1; omega, rfl, fun j y hj hy => by
        by_cases e : j = i
        · subst e; rw [hx1] at hy; cases hy; exact hlt
        · have := hno j y (by omega) hy; omega⟩
      have mf : Hid (Mv E2 U2 W3) := Mv.below hb3
      clear hA hb3 hno hx1 hlt x0 z0 y0
      gi_wp2_with fail
      exact ⟨mf.out, E2, Gr.refl _ _, fin.out⟩
  case done =>
    intro D E2 U hD hK hnD hm hg hi
    obtain ⟨hE, hb, k, hk, hr, hno⟩ := hi
    obtain rfl := bk_nil hk hr.symm
    obtain ⟨_, _, _, a3, a4, _, _⟩ := c0.out U hb
    have hall : Hid (∀ x ∈ xs, ¬ key x.v < key t.v) := fun x hx => by
      obtain ⟨j, hj⟩ := List.getElem?_of_mem hx
      exact hno j x (Nat.zero_le _) hj
    obtain ⟨V, hV⟩ : ∃ V, U.setCell ⟨n + 1 + 1 + 1, 0, none⟩ (.bool false) = V := ⟨_, rfl⟩
    have mV : Mv (fun k => k = n + 3) U V := by rw [← hV]; exact Mv.set1 (E := fun k => k = n + 3) rfl _
    have h56 := hs5H.out
    have cV : V.cell? ⟨n + 3, 0, none⟩ = some (.bool false) := by rw [← hV]; exact World.cell?_setCell_same _ _ _ a3
    have hKV : V.heap[D]? = some (.deferred (some [])) := (mV.block D (lt_of_heap hK) (by omega)).trans hK
    have mP : Mv (fun j => j = D) V (V.putObj D (.deferred none)) := Mv.put (E := fun j => j = D) rfl _
    have k0 := mP.cell (a := ⟨n + 3, 0, none⟩) (by show ¬ n + 3 = D; omega) cV
    have fin : Hid (Below w.heap.size w (V.putObj D (.deferred none))) := by
      rw [hnH.out]
      exact bmv (bmv (b5H.out.trans (hb.mono (by omega))) (by rw [hnH.out]; omega) mV (fun k e => by omega)) (by rw [hnH.out]; omega) mP (fun k e => by omega)
    have hKVH := hidP hKV
    have k0H := hidP k0
    clear hE hb hk hr hno mV cV hKV mP k0 hK hm hg h56
    gi_wp2_with (rw [hV])
    refine ⟨by simp, .inl ⟨_, _, rfl, run_takeDeferred hKVH.out, ?_⟩⟩
    have k0 := k0H.out
    exact ⟨.bool false, by simp [results, Tryz.results78, go_sem, k0], .inl ⟨rfl, fun x hx => by have := hall.out x hx; omega, fin.out⟩⟩
  case stop =>
    rintro D c E2 U hD hK hnD hm hg ⟨rfl, i, x, b, hE, hw, hc, hv⟩
    have h56 := hs5H.out
    have mP : Mv (fun j => j = D) U (U.putObj D (.deferred none)) := Mv.put (E := fun j => j = D) rfl _
    have k0 := mP.cell (a := ⟨n + 3, 0, none⟩) (by show ¬ n + 3 = D; omega) hc
    have nbD : b ≠ D := fun e => hnD ((hE D).2 (.inr (.inr e.symm)))
    have gw : Wt key xs t g o w.heap.size i x b (U.putObj D (.deferred none)) := by
      have q := hw.mv mP (fun e => by have : g = D := e; omega) (fun e => nbD e)
      exact ⟨q.at_, q.ah, q.last, by rw [hnH.out]; have := q.nw; omega, q.c0, q.c1, q.c2, q.c3, q.cg⟩
    have gv : Cv (fun k j => k = g ∧ j = o + i * 8 + 7) w (U.putObj D (.deferred none)) := by
      have q := hv.next mP (fun k e => by omega)
      have b5 : Below w.heap.size w w6 := by rw [hnH.out]; exact b5H.out
      exact (Cv.below b5).trans q (fun k j h => h.imp id (fun e => by rw [hnH.out]; omega))
    gi_wp2_with fail
    refine ⟨by simp, .inl ⟨_, _, rfl, run_takeDeferred hK, ?_⟩⟩
    exact ⟨.bool true, by simp [results, Tryz.results78, go_sem, k0], .inr ⟨i, x, b, rfl, gw, gv⟩⟩
end Go.Proofs.YtdcidlgmnnaahaaGreat.Qw
/- The closure of unheld; slices.IndexFunc and slices.DeleteFunc with it. -/
namespace Go.Proofs.YtdcidlgmnnaahaaGreat.Qw
open Go.RowKit Go.Shelf Go.Lib
attribute [local go_sem] Oper.semAt_some
theorem WP.below {key : El → Int} {xs : List Rec} {t : Rec} {g o : Nat} {w V : World} {e : Ending} {w' : World} (b : Below w.heap.size w V) (h : WP key xs t g o V e w') : WP key xs t g o w e w' := by
  rcases h with ⟨rfl, h1, h2⟩ | ⟨i, x, b', rfl, h1, h2⟩
  · exact .inl ⟨rfl, h1, b.trans (h2.mono b.size)⟩
  · exact .inr ⟨i, x, b', rfl, ⟨h1.at_, h1.ah, h1.last, Nat.le_trans b.size h1.nw, h1.c0, h1.c1, h1.c2, h1.c3, h1.cg⟩, (Cv.below b).trans h2 (fun _ _ h => .inl h)⟩
/-- The closure's own: the queue's box, the others' box. -/
structure Cz (nb : NB) (q bq bo g o n cap : Nat) (w : World) : Prop where
  cq : w.cell? ⟨q, 0, none⟩ = some (fnV nb)
  cbq : w.cell? ⟨bq, 0, none⟩ = some (.pointer (some ⟨q, 0, none⟩))
  cbo : w.cell? ⟨bo, 0, none⟩ = some (slv g o n cap)
theorem Cz.below {nb : NB} {q bq bo g o n cap : Nat} {w V : World} (h : Cz nb q bq bo g o n cap w) (b : Below w.heap.size w V) : Cz nb q bq bo g o n cap V :=
  ⟨bcell b (cell_lt h.cq) h.cq, bcell b (cell_lt h.cbq) h.cbq, bcell b (cell_lt h.cbo) h.cbo⟩
theorem Cz.cv {S : Nat → Nat → Prop} {nb : NB} {q bq bo g o n cap : Nat} {w V : World} (h : Cz nb q bq bo g o n cap w) (m : Cv S w V) (h1 : ¬ S q 0) (h2 : ¬ S bq 0) (h3 : ¬ S bo 0) : Cz nb q bq bo g o n cap V :=
  ⟨m.cell h1 h.cq, m.cell h2 h.cbq, m.cell h3 h.cbo⟩
def clo (bq bo : Nat) : Value := .func (.func 77) #[] #[.pointer (some ⟨bq, 0, none⟩), .pointer (some ⟨bo, 0, none⟩)]
set_option maxRecDepth 100000 in
set_option maxHeartbeats 1000000 in
theorem clo_any {nb : NB} {key : El → Int} (hB : Bf nb key) {q bq bo g o cap : Nat} {xs : List Rec} (t : Rec) (w : World) (hz : Cz nb q bq bo g o xs.length cap w) (hx : RS w g o cap xs) (hl : xs.length ≤ 1000000) :
    Calls Tryz.prog 77 #[t.val, .pointer (some ⟨bq, 0, none⟩), .pointer (some ⟨bo, 0, none⟩)] w (WP key xs t g o w) := by
  obtain ⟨W0, hW0⟩ : ∃ W0, w.alloc (.cells #[vc0 t.v, vc1 t.v, vc2 t.v, vc3 t.v, vc4 t.v, vc5 t.v, .int .i64 t.t, ptrV t.p] 94) = W0 := ⟨_, rfl⟩
  have b0 : Below w.heap.size w W0 := by rw [← hW0]; exact (Below.refl _ _).alloc (Nat.le_refl _) _
  have z0 := hz.below b0
  have hC := waits_any hB q t W0 z0.cq (hx.cv (S := fun _ _ => False) (Cv.below b0) (fun _ _ _ h => h)) hl
  have hCH := hidP hC
  have z1 := z0.cbq
  have z2 := z0.cbo
  have n0 : W0.cell? ⟨w.heap.size, 0, none⟩ = some (vc0 t.v) ∧ W0.cell? ⟨w.heap.size, 1, none⟩ = some (vc1 t.v) ∧ W0.cell? ⟨w.heap.size, 2, none⟩ = some (vc2 t.v) ∧ W0.cell? ⟨w.heap.size, 3, none⟩ = some (vc3 t.v) ∧ W0.cell? ⟨w.heap.size, 4, none⟩ = some (vc4 t.v) ∧ W0.cell? ⟨w.heap.size, 5, none⟩ = some (vc5 t.v) := by rw [← hW0]; exact ⟨cell_at rfl rfl, cell_at rfl rfl, cell_at rfl rfl, cell_at rfl rfl, cell_at rfl rfl, cell_at rfl rfl⟩
  have n1 : W0.cell? ⟨w.heap.size, 6, none⟩ = some (.int .i64 t.t) := by rw [← hW0]; exact cell_at rfl rfl
  have n2 : W0.cell? ⟨w.heap.size, 7, none⟩ = some (ptrV t.p) := by rw [← hW0]; exact cell_at rfl rfl
  have b0H := hidP b0
  clear hz z0 hx hC hB b0
  unfold slv at z2
  unfold Rec.val at hCH ⊢
  go_enter Tryz.func77, Tryz.ntmps77
  go_wp2_with (rw [hW0])
  refine hCH.out.mono ?_
  intro e w' h
  have hH := hidP (h.below b0H.out)
  rcases h with ⟨rfl, _⟩ | ⟨i, x, b, rfl, _⟩
  · go_wp2_with fail
    go_ret
    exact hH.out
  · go_wp2_with fail
    go_ret
    exact hH.out
end Go.Proofs.YtdcidlgmnnaahaaGreat.Qw
