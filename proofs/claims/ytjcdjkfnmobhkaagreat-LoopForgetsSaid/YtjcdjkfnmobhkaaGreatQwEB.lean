/- slices.IndexFunc and slices.DeleteFunc with the closure of unheld: all wait. -/
import Derived.Test.YtjcdjkfnmobhkaaGreatQwDB
namespace Go.Proofs.YtjcdjkfnmobhkaaGreat.Qw
open Go.RowKit Go.Shelf Go.Lib
attribute [local go_sem] Oper.semAt_some
theorem RF.get {w : World} {B : Nat → Prop} : ∀ {xs : List Rec} {ys : List (Tr El)}, RF w B xs ys → ∀ {k : Nat} {x : Rec}, xs[k]? = some x → ∃ y, ys[k]? = some y ∧ x.v = y.v ∧ x.t = y.t ∧ LR w B y.k x.p
  | [], [], _, k, x, hk => by cases hk
  | x :: xs, y :: ys, h, 0, z, hk => by
    simp at hk; subst hk
    exact ⟨y, rfl, h.1⟩
  | x :: xs, y :: ys, h, k + 1, z, hk => by
    obtain ⟨y', h1, h2⟩ := RF.get h.2 (k := k) (x := z) (by simpa using hk)
    exact ⟨y', by simpa using h1, h2⟩
  | [], _ :: _, h, _, _, _ => h.elim
  | _ :: _, [], h, _, _, _ => h.elim
/-- All of the trees ts wait behind the last of others. -/
structure Yes (key : El → Int) (w : World) (B : Nat → Prop) (ts : List Rec) (T : List (Tr El)) (g o cap : Nat) (ys : List Rec) (x : Rec) (kx : Fo El) (gt ot ct : Nat) : Prop where
  ox : RS w g o cap (ys ++ [x])
  ol : ys.length + 1 ≤ 1000000
  lx : LR w B kx x.p
  ng : ∀ b, B b → b ≠ g
  nt : ∀ b, B b → b ≠ gt
  lo : ∀ b, B b → b < w.heap.size
  tr : RS w gt ot ct ts
  tl : ts.length ≤ 1000000
  rf : RF w B ts T
  ah : ∀ t ∈ ts, key x.v < key t.v
  dj : ∀ j, ot ≤ j → j < ot + ts.length * 8 → ¬ (gt = g ∧ o ≤ j ∧ j < o + (ys.length + 1) * 8)
theorem Yes.start {key : El → Int} {w : World} {B : Nat → Prop} {ts : List Rec} {T : List (Tr El)} {g o cap : Nat} {ys : List Rec} {x : Rec} {kx : Fo El} {gt ot ct : Nat} (h : Yes key w B ts T g o cap ys x kx gt ot ct) : DI w B T g o cap ys x kx 0 w x.p B :=
  ⟨h.ox, h.lx, fun _ h => h, fun _ h => .inl h, h.lo, Cv.refl _ _⟩
theorem Yes.call {nb : NB} {key : El → Int} (hB : Bf nb key) {q bq bo : Nat} {w : World} {B : Nat → Prop} {ts : List Rec} {T : List (Tr El)} {g o cap : Nat} {ys : List Rec} {x : Rec} {kx : Fo El} {gt ot ct : Nat} (h : Yes key w B ts T g o cap ys x kx gt ot ct) (hz : Cz nb q bq bo g o (ys.length + 1) cap w) (nq : q ≠ g) (nbq : bq ≠ g) (nbo : bo ≠ g)
    {k : Nat} {t : Rec} (hk : ts[k]? = some t) {W : World} {p : Option Nat} {B' : Nat → Prop} (hd : DI w B T g o cap ys x kx k W p B') :
    ((W.cell? ⟨gt, ot + k * 8, none⟩ = some (vc0 t.v) ∧ W.cell? ⟨gt, ot + k * 8 + 1, none⟩ = some (vc1 t.v) ∧ W.cell? ⟨gt, ot + k * 8 + 2, none⟩ = some (vc2 t.v) ∧ W.cell? ⟨gt, ot + k * 8 + 3, none⟩ = some (vc3 t.v) ∧ W.cell? ⟨gt, ot + k * 8 + 4, none⟩ = some (vc4 t.v) ∧ W.cell? ⟨gt, ot + k * 8 + 5, none⟩ = some (vc5 t.v)) ∧ W.cell? ⟨gt, ot + k * 8 + 6, none⟩ = some (.int .i64 t.t) ∧ W.cell? ⟨gt, ot + k * 8 + 7, none⟩ = some (ptrV t.p)) ∧
    Calls Tryz.prog 81 #[t.val, .pointer (some ⟨bq, 0, none⟩), .pointer (some ⟨bo, 0, none⟩)] W fun e V => e = .returned (.bool true) ∧ ∃ p' B'', DI w B T g o cap ys x kx (k + 1) V p' B'' := by
  obtain ⟨y, hy, h1, h2, h3⟩ := h.rf.get hk
  refine ⟨(h.tr.cv hd.cv (fun j h1 h2 s => h.dj j h1 h2 ⟨s.1, by have := s.2; omega, by have := s.2; omega⟩)).ra.at hk, ?_⟩
  have hz2 := hz.cv hd.cv (fun s => nq s.1) (fun s => nbq s.1) (fun s => nbo s.1)
  have hc := clo_any hB (xs := ys ++ [⟨x.v, x.t, p⟩]) t W (by simpa using hz2) hd.rs (by simpa using h.ol)
  refine hc.mono ?_
  intro e V hw
  exact hd.step hy h1 h2 h3 h.ng h.ox.rm.lt (h.ah t (List.mem_of_getElem? hk)) hw
set_option maxRecDepth 100000 in
set_option maxHeartbeats 2000000 in
theorem index_yes {nb : NB} {key : El → Int} (hB : Bf nb key) {q bq bo : Nat} {w : World} {B : Nat → Prop} {ts : List Rec} {T : List (Tr El)} {g o cap : Nat} {ys : List Rec} {x : Rec} {kx : Fo El} {gt ot ct : Nat} (h : Yes key w B ts T g o cap ys x kx gt ot ct) (hz : Cz nb q bq bo g o (ys.length + 1) cap w) (nq : q ≠ g) (nbq : bq ≠ g) (nbo : bo ≠ g) (h0 : 0 < ts.length) :
    Calls Tryz.prog 92 #[slv gt ot ts.length ct, clo bq bo] w fun e W => e = .returned (.int .i64 0) ∧ ∃ p B', DI w B T g o cap ys x kx 1 W p B' := by
  obtain ⟨t, hk⟩ : ∃ t, ts[0]? = some t := ⟨_, List.getElem?_eq_getElem h0⟩
  obtain ⟨⟨c0, c1, c2⟩, hc⟩ := h.call hB hz nq nbq nbo hk h.start
  obtain ⟨n, hn⟩ : ∃ n, ts.length = n := ⟨_, rfl⟩
  have htl := h.tl
  rw [hn] at h0 htl ⊢
  rw [show ot + 0 * 8 = ot by omega] at c0 c1 c2
  have hcH := hidP hc
  have h0I : (0 : Int) < (n : Int) := by omega
  unfold Rec.val at hcH
  clear hc hk hz h hn hB
  unfold slv clo
  go_enter Tryz.func92, Tryz.ntmps92
  go_wp2_with fail
  go_loopw [8] (fun i wr => i = .int .i64 0 ∧ Hid (wr = w)) (fun _ _ => 0)
  case atStart => exact ⟨rfl, rfl⟩
  case round =>
    obtain ⟨rfl, hw⟩ := hrel
    obtain rfl := hw.out
    go_wp2_with fail
    refine hcH.out.mono ?_
    rintro e w2 ⟨rfl, hd⟩
    have hdH := hidP hd
    clear hd hcH c0 c1 c2
    go_wp2_with fail
    go_ret
    exact ⟨rfl, hdH.out⟩
set_option maxRecDepth 100000 in
set_option maxHeartbeats 2000000 in
theorem delete_no {nb : NB} {key : El → Int} (hB : Bf nb key) {q bq bo g o cap gt ot ct : Nat} {xs ts : List Rec} (w : World) (hz : Cz nb q bq bo g o xs.length cap w) (hx : RS w g o cap xs) (hl : xs.length ≤ 1000000) (ht : RS w gt ot ct ts) (htl : ts.length ≤ 1000000) (hno : ∀ t ∈ ts, ∀ x ∈ xs, ¬ key x.v < key t.v) :
    Calls Tryz.prog 80 #[slv gt ot ts.length ct, clo bq bo] w fun e w' => e = .returned (slv gt ot ts.length ct) ∧ Below w.heap.size w w' := by
  have hI := hidP (index_no hB w hz hx hl ht htl hno)
  obtain ⟨n, hn⟩ : ∃ n, ts.length = n := ⟨_, rfl⟩
  rw [hn] at hI ⊢
  clear hz hx ht htl hno hn hB hl
  unfold slv clo at *
  go_enter Tryz.func80, Tryz.ntmps80
  go_wp2_with fail
  refine hI.out.mono ?_
  rintro e w2 ⟨rfl, hb⟩
  have hbH := hidP hb
  clear hb hI
  go_wp2_with fail
  go_ret
  exact ⟨rfl, hbH.out⟩
set_option maxRecDepth 100000 in
set_option maxHeartbeats 4000000 in
theorem delete_yes {nb : NB} {key : El → Int} (hB : Bf nb key) {q bq bo : Nat} {w : World} {B : Nat → Prop} {ts : List Rec} {T : List (Tr El)} {g o cap : Nat} {ys : List Rec} {x : Rec} {kx : Fo El} {gt ot ct : Nat} (h : Yes key w B ts T g o cap ys x kx gt ot ct) (hz : Cz nb q bq bo g o (ys.length + 1) cap w) (nq : q ≠ g) (nbq : bq ≠ g) (nbo : bo ≠ g) (h0 : 0 < ts.length) :
    Calls Tryz.prog 80 #[slv gt ot ts.length ct, clo bq bo] w fun e V => e = .returned (slv gt ot 0 ct) ∧ ∃ W p B' vs, vs.length = ts.length * 8 ∧ DI w B T g o cap ys x kx ts.length W p B' ∧ V = W.setCells gt ot vs := by
  have hI := hidP (index_yes hB h hz nq nbq nbo h0)
  have hC : Hid (∀ (k : Nat) (t : Rec), ts[k]? = some t → ∀ W p B', DI w B T g o cap ys x kx k W p B' → _) := fun k t hk W p B' hd => h.call hB hz nq nbq nbo hk hd
  obtain ⟨n, hn⟩ : ∃ n, ts.length = n := ⟨_, rfl⟩
  have hfin : Hid (∀ W p B', DI w B T g o cap ys x kx n W p B' → ∃ vs : List Value, vs.length = n * 8 ∧ (Builtin.clear_ #[68] 0 #[slv gt ot n ct]).run Tryz.prog W = .ok (.tuple #[]) (W.setCells gt ot vs)) := fun W p B' hd => by
    obtain ⟨m, rfl⟩ : ∃ m, n = m + 1 := ⟨n - 1, by omega⟩
    have hle := h.tr.le
    have r := (h.tr.rm.cv hd.cv).sub (a := 0) (c := m + 1) (by omega)
    rw [show ot + 0 * 8 = ot by omega] at r
    exact run_clearR W 0 r
  have htl := h.tl
  have hct := h.tr.le
  have hcm := h.tr.rm.mx
  rw [hn] at hI h0 htl hct ⊢
  have hN := hidP hn
  have h0I : (0 : Int) < (n : Int) := by omega
  clear h hz hn hB
  unfold slv clo at *
  go_enter Tryz.func80, Tryz.ntmps80
  go_wp2_with fail
  refine hI.out.mono ?_
  rintro e w1 ⟨rfl, hd⟩
  have hdH := hidP hd
  clear hd hI
  go_wp2_with fail
  go_loopw [5, 6] (fun i5 i wr => ∃ j : Nat, i5 = .int .i64 0 ∧ 1 ≤ j ∧ j ≤ n ∧ i = .int .i64 j ∧ Hid (∃ p B', DI w B T g o cap ys x kx j wr p B')) (fun _ i _ => n - (intOf i).toNat)
  case atStart => exact ⟨1, rfl, by omega, by omega, rfl, hdH⟩
  case round =>
    obtain ⟨j, rfl, hj1, hj, rfl, hd⟩ := hrel
    by_cases hlt : j < n
    · obtain ⟨t, ht⟩ : ∃ t, ts[j]? = some t := ⟨_, List.getElem?_eq_getElem (by rw [hN.out]; exact hlt)⟩
      obtain ⟨p, B', hd'⟩ := hd.out
      obtain ⟨⟨c0, c1, c2⟩, _⟩ := hC.out j t ht wr p B' hd'
      obtain ⟨A, hA⟩ : ∃ A, wr.alloc (.cells #[vc0 t.v, vc1 t.v, vc2 t.v, vc3 t.v, vc4 t.v, vc5 t.v, .int .i64 t.t, ptrV t.p] 104) = A := ⟨_, rfl⟩
      have bA : Below wr.heap.size wr A := by rw [← hA]; exact (Below.refl _ _).alloc (Nat.le_refl _) _
      have n0 : A.cell? ⟨wr.heap.size, 0, none⟩ = some (vc0 t.v) ∧ A.cell? ⟨wr.heap.size, 1, none⟩ = some (vc1 t.v) ∧ A.cell? ⟨wr.heap.size, 2, none⟩ = some (vc2 t.v) ∧ A.cell? ⟨wr.heap.size, 3, none⟩ = some (vc3 t.v) ∧ A.cell? ⟨wr.heap.size, 4, none⟩ = some (vc4 t.v) ∧ A.cell? ⟨wr.heap.size, 5, none⟩ = some (vc5 t.v) := by rw [← hA]; exact ⟨cell_at rfl rfl, cell_at rfl rfl, cell_at rfl rfl, cell_at rfl rfl, cell_at rfl rfl, cell_at rfl rfl⟩
      have n1 : A.cell? ⟨wr.heap.size, 6, none⟩ = some (.int .i64 t.t) := by rw [← hA]; exact cell_at rfl rfl
      have n2 : A.cell? ⟨wr.heap.size, 7, none⟩ = some (ptrV t.p) := by rw [← hA]; exact cell_at rfl rfl
      have hcH := hidP (hC.out j t ht A p B' (hd'.below bA)).2
      have hlI : (j : Int) < (n : Int) := by omega
      unfold Rec.val at hcH
      clear ht hd' bA
      go_wp2_with (rw [hA])
      refine hcH.out.mono ?_
      rintro e w2 ⟨rfl, hd2⟩
      have hd2H := hidP hd2
      clear hd2 hcH c0 c1 c2 n0 n1 n2 hA
      go_wp2_with fail
      exact ⟨⟨j + 1, rfl, by omega, by omega, by go_num, hd2H⟩, by simp [intOf]; omega⟩
    · obtain rfl : j = n := by omega
      obtain ⟨p, B', hd'⟩ := hd.out
      obtain ⟨vs, hvs, hrun⟩ := hfin.out wr p B' hd'
      have fin := hidP (⟨wr, p, B', vs, hvs, hd', rfl⟩ : ∃ W p B' vs', vs'.length = j * 8 ∧ DI w B T g o cap ys x kx j W p B' ∧ wr.setCells gt ot vs = W.setCells gt ot vs')
      have hc0 : ¬ ct = 0 := by omega
      clear hd' hvs hfin hC
      go_wp2_with fail
      go_ret
      exact ⟨rfl, fin.out⟩
end Go.Proofs.YtjcdjkfnmobhkaaGreat.Qw
