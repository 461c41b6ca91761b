/- unheld. -/
import Derived.Test.YtjcdjkfnmobhkaaGreatQwEB
namespace Go.Proofs.YtjcdjkfnmobhkaaGreat.Qw
open Go.RowKit Go.Shelf Go.Lib
attribute [local go_sem] Oper.semAt_some
def qp (q : Nat) : Value := .pointer (some ⟨q, 0, none⟩)
set_option maxRecDepth 100000 in
set_option maxHeartbeats 1000000 in
theorem unheld_empty (q : Nat) (p p2 : Option Addr) (n c c2 : Nat) (w : World) :
    Calls Tryz.prog 63 #[qp q, .slice p n c, .slice p2 0 c2] w fun e V => e = .returned (.slice p n c) ∧ Below w.heap.size w V := by
  obtain ⟨W0, hW0⟩ : ∃ W0, (w.alloc (.cells #[qp q] 74)).alloc (.cells #[.slice p2 0 c2] 68) = W0 := ⟨_, rfl⟩
  have b0 : Hid (Below w.heap.size w W0) := by show Below _ _ _; rw [← hW0]; exact ((Below.refl _ _).alloc (Nat.le_refl _) _).alloc (by simp) _
  have k1 : W0.cell? ⟨w.heap.size + 1, 0, none⟩ = some (.slice p2 0 c2) := by rw [← hW0]; exact cell_at (by simp) rfl
  unfold qp at *
  go_enter Tryz.func63, Tryz.ntmps63
  go_wp2_with (rw [hW0])
  go_ret
  exact ⟨rfl, b0.out⟩
set_option maxRecDepth 100000 in
set_option maxHeartbeats 1000000 in
theorem unheld_no {nb : NB} {key : El → Int} (hB : Bf nb key) {q g o cap gt ot ct : Nat} {xs ts : List Rec} (w : World) (hq : w.cell? ⟨q, 0, none⟩ = some (fnV nb)) (hx : RS w g o cap xs) (hl : xs.length ≤ 1000000) (h0 : 0 < xs.length) (ht : RS w gt ot ct ts) (htl : ts.length ≤ 1000000) (hno : ∀ t ∈ ts, ∀ x ∈ xs, ¬ key x.v < key t.v) :
    Calls Tryz.prog 63 #[qp q, slv gt ot ts.length ct, slv g o xs.length cap] w fun e V => e = .returned (slv gt ot ts.length ct) ∧ Below w.heap.size w V := by
  obtain ⟨W0, hW0⟩ : ∃ W0, (w.alloc (.cells #[qp q] 74)).alloc (.cells #[slv g o xs.length cap] 68) = W0 := ⟨_, rfl⟩
  have b0 : Below w.heap.size w W0 := by rw [← hW0]; exact ((Below.refl _ _).alloc (Nat.le_refl _) _).alloc (by simp) _
  have k0 : W0.cell? ⟨w.heap.size, 0, none⟩ = some (qp q) := by rw [← hW0]; exact (Mv.alloc (fun _ => False) _ _).cell (fun h => h) (cell_at rfl rfl)
  have k1 : W0.cell? ⟨w.heap.size + 1, 0, none⟩ = some (slv g o xs.length cap) := by rw [← hW0]; exact cell_at (by simp) rfl
  have cb := Cv.below (S := fun _ _ => False) b0
  have hD := hidP (delete_no hB W0 (bq := w.heap.size) (bo := w.heap.size + 1) ⟨bcell b0 (cell_lt hq) hq, k0, k1⟩ (hx.cv cb (fun _ _ _ h => h)) hl (ht.cv cb (fun _ _ _ h => h)) htl hno)
  have b0H := hidP b0
  obtain ⟨n, hn⟩ : ∃ n, xs.length = n := ⟨_, rfl⟩
  obtain ⟨m, hm⟩ : ∃ m, ts.length = m := ⟨_, rfl⟩
  rw [hn] at k1 hW0 h0 hl ⊢
  rw [hm] at hD ⊢
  have hne : ¬ n = 0 := by omega
  have hneI : ((n : Int) == 0) = false := by simp; omega
  clear hB hq hx ht hno hn hm b0 k0 cb htl
  unfold qp slv clo at *
  go_enter Tryz.func63, Tryz.ntmps63
  go_wp2_with (rw [hW0])
  refine hD.out.mono ?_
  rintro e V ⟨rfl, hb⟩
  have hbH := hidP (b0H.out.trans (hb.mono b0H.out.size))
  clear hb hD
  go_wp2_with fail
  go_ret
  exact ⟨rfl, hbH.out⟩
/-- The trees T wait behind the last of others, in a world V. -/
structure UY (w : World) (B : Nat → Prop) (T : List (Tr El)) (g o cap : Nat) (ys : List Rec) (x : Rec) (kx : Fo El) (gt ot nt : Nat) (V : World) (p : Option Nat) (B' : Nat → Prop) : Prop where
  rs : RS V g o cap (ys ++ [⟨x.v, x.t, p⟩])
  lr : LR V B' (putF T kx) p
  up : ∀ b, B b → B' b
  gr : Gr B w B'
  lo : ∀ b, B' b → b < V.heap.size
  cv : Cv (fun k j => (k = g ∧ j = o + ys.length * 8 + 7) ∨ (k = gt ∧ ot ≤ j ∧ j < ot + nt * 8)) w V
theorem DI.fin {key : El → Int} {w w0 : World} {B : Nat → Prop} {ts : List Rec} {T : List (Tr El)} {g o cap : Nat} {ys : List Rec} {x : Rec} {kx : Fo El} {gt ot ct : Nat} (h : Yes key w B ts T g o cap ys x kx gt ot ct) (b0 : Below w0.heap.size w0 w) {W : World} {p : Option Nat} {B' : Nat → Prop} (hd : DI w B T g o cap ys x kx ts.length W p B') {vs : List Value} (hv : vs.length = ts.length * 8) : UY w0 B T g o cap ys x kx gt ot ts.length (W.setCells gt ot vs) p B' := by
  have m := Cv.cells W gt ot vs
  rw [hv] at m
  have e : T.take ts.length = T := by rw [h.rf.len]; exact List.take_length
  have hlr := hd.lr
  rw [e] at hlr
  have ngt : ∀ b, B' b → b ≠ gt := fun b hb => by
    rcases hd.gr b hb with q | q
    · exact h.nt b q
    · have := h.tr.rm.lt; omega
  refine ⟨hd.rs.cv m (fun j h1 h2 s => h.dj j s.2.1 s.2.2 ⟨s.1.symm, h1, by simpa using h2⟩), LR.cv m (fun _ h => h) (fun b hb j s => ngt b hb s.1) _ _ hlr, hd.up, fun b hb => (hd.gr b hb).imp id (fun q => Nat.le_trans b0.size q), fun b hb => Nat.lt_of_lt_of_le (hd.lo b hb) m.size, ?_⟩
  exact ((Cv.below (S := fun k j => (k = g ∧ j = o + ys.length * 8 + 7) ∨ (k = gt ∧ ot ≤ j ∧ j < ot + ts.length * 8)) b0).trans hd.cv (fun k j s => .inl (.inl s))).trans m (fun k j s => .inl (.inr s))
set_option maxRecDepth 100000 in
set_option maxHeartbeats 1000000 in
theorem unheld_yes {nb : NB} {key : El → Int} (hB : Bf nb key) {q : Nat} {w : World} {B : Nat → Prop} {ts : List Rec} {T : List (Tr El)} {g o cap : Nat} {ys : List Rec} {x : Rec} {kx : Fo El} {gt ot ct : Nat} (h : Yes key w B ts T g o cap ys x kx gt ot ct) (hq : w.cell? ⟨q, 0, none⟩ = some (fnV nb)) (nq : q ≠ g) (h0 : 0 < ts.length) :
    Calls Tryz.prog 63 #[qp q, slv gt ot ts.length ct, slv g o (ys.length + 1) cap] w fun e V => e = .returned (slv gt ot 0 ct) ∧ ∃ p B', UY w B T g o cap ys x kx gt ot ts.length V p B' := by
  obtain ⟨W0, hW0⟩ : ∃ W0, (w.alloc (.cells #[qp q] 74)).alloc (.cells #[slv g o (ys.length + 1) cap] 68) = W0 := ⟨_, rfl⟩
  have b0 : Below w.heap.size w W0 := by rw [← hW0]; exact ((Below.refl _ _).alloc (Nat.le_refl _) _).alloc (by simp) _
  have k0 : W0.cell? ⟨w.heap.size, 0, none⟩ = some (qp q) := by rw [← hW0]; exact (Mv.alloc (fun _ => False) _ _).cell (fun h => h) (cell_at rfl rfl)
  have k1 : W0.cell? ⟨w.heap.size + 1, 0, none⟩ = some (slv g o (ys.length + 1) cap) := by rw [← hW0]; exact cell_at (by simp) rfl
  have cb := Cv.below (S := fun _ _ => False) b0
  have hY : Yes key W0 B ts T g o cap ys x kx gt ot ct := ⟨h.ox.cv cb (fun _ _ _ h => h), h.ol, LR.cv cb (fun _ h => h) (fun _ _ _ h => h) _ _ h.lx, h.ng, h.nt, fun b hb => Nat.lt_of_lt_of_le (h.lo b hb) b0.size, h.tr.cv cb (fun _ _ _ h => h), h.tl, RF.cv cb (fun _ h => h) (fun _ _ _ h => h) _ _ h.rf, h.ah, h.dj⟩
  have hg := h.ox.rm.lt
  have hD := delete_yes hB hY (bq := w.heap.size) (bo := w.heap.size + 1) ⟨bcell b0 (cell_lt hq) hq, k0, k1⟩ nq (by omega) (by omega) h0
  have hD2 : Hid (Calls Tryz.prog 80 #[slv gt ot ts.length ct, clo w.heap.size (w.heap.size + 1)] W0 fun e V => e = .returned (slv gt ot 0 ct) ∧ ∃ p B', UY w B T g o cap ys x kx gt ot ts.length V p B') := by
    refine hD.mono ?_
    rintro e V ⟨rfl, W, p, B', vs, hv, hd, rfl⟩
    exact ⟨rfl, p, B', DI.fin hY b0 hd hv⟩
  obtain ⟨n, hn⟩ : ∃ n, ys.length + 1 = n := ⟨_, rfl⟩
  have hol := h.ol
  have hneI : ((n : Int) == 0) = false := by simp; omega
  have hne : ¬ n = 0 := by omega
  rw [hn] at k1 hW0 hol ⊢
  have hnH := hidP hn
  clear hB hq h b0 k0 cb hY hg hD hn
  unfold qp slv clo at *
  go_enter Tryz.func63, Tryz.ntmps63
  go_wp2_with (rw [hW0])
  refine hD2.out.mono ?_
  rintro e V ⟨rfl, hb⟩
  have hbH := hidP hb
  clear hb hD2
  go_wp2_with fail
  go_ret
  exact ⟨rfl, hbH.out⟩
end Go.Proofs.YtjcdjkfnmobhkaaGreat.Qw
