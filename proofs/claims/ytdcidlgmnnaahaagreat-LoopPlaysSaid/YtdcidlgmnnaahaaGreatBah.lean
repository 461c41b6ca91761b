import Derived.Test.YtdcidlgmnnaahaaGreatBag
/- slices.IndexFunc and slices.DeleteFunc with the closure of unheld: none waits; all wait. -/
namespace Go.Proofs.YtdcidlgmnnaahaaGreat.Qw
open Go.RowKit Go.Shelf Go.Lib
attribute [local go_sem] Oper.semAt_some
theorem putF_snoc {α : Type} (ts : List (Tr α)) (t : Tr α) (k : Fo α) : putF (ts ++ [t]) k = .cons t.v t.t t.k (putF ts k) := by simp [putF]
/-- The first k trees wait behind the last of others: its list is at p. -/
structure DI (w : World) (B : Nat → Prop) (T : List (Tr El)) (g o cap : Nat) (ys : List Rec) (x : Rec) (kx : Fo El) (k : Nat) (W : World) (p : Option Nat) (B' : Nat → Prop) : Prop where
  rs : RS W g o cap (ys ++ [⟨x.v, x.t, p⟩])
  lr : LR W B' (putF (T.take k) kx) p
  up : ∀ b, B b → B' b
  gr : Gr B w B'
  lo : ∀ b, B' b → b < W.heap.size
  cv : Cv (fun k j => k = g ∧ j = o + ys.length * 8 + 7) w W
theorem DI.below {w : World} {B : Nat → Prop} {T : List (Tr El)} {g o cap : Nat} {ys : List Rec} {x : Rec} {kx : Fo El} {k : Nat} {W V : World} {p : Option Nat} {B' : Nat → Prop} (h : DI w B T g o cap ys x kx k W p B') (b : Below W.heap.size W V) : DI w B T g o cap ys x kx k V p B' :=
  ⟨h.rs.cv (S := fun _ _ => False) (Cv.below b) (fun _ _ _ h => h), LR.cv (S := fun _ _ => False) (Cv.below b) (fun _ h => h) (fun _ _ _ h => h) _ _ h.lr, h.up, h.gr, fun b' hb' => Nat.lt_of_lt_of_le (h.lo b' hb') b.size, h.cv.trans (T := fun _ _ => False) (Cv.below b) (fun _ _ h => h.elim)⟩
theorem getE_snoc {α : Type} (ys : List α) (x : α) : (ys ++ [x])[ys.length]? = some x := by simp
/-- One more waits. -/
theorem DI.step {key : El → Int} {w : World} {B : Nat → Prop} {T : List (Tr El)} {g o cap : Nat} {ys : List Rec} {x : Rec} {kx : Fo El} {k : Nat} {W V : World} {p : Option Nat} {B' : Nat → Prop} (h : DI w B T g o cap ys x kx k W p B') {t : Rec} {y : Tr El} (hy : T[k]? = some y) (h1 : t.v = y.v) (h2 : t.t = y.t) (h3 : LR w B y.k t.p) (hBg : ∀ b, B b → b ≠ g) (hgw : g < w.heap.size) (hah : key x.v < key t.v)
    {e : Ending} (hw : WP key (ys ++ [⟨x.v, x.t, p⟩]) t g o W e V) : e = .returned (.bool true) ∧ ∃ p' B'', DI w B T g o cap ys x kx (k + 1) V p' B'' := by
  rcases hw with ⟨_, hno, _⟩ | ⟨i, z, b, rfl, hw, hv⟩
  · exact absurd hah (hno ⟨x.v, x.t, p⟩ (by simp))
  · refine ⟨rfl, some b, fun k => B' k ∨ k = b, ?_⟩
    have hi : i = ys.length := by
      have hlt := (List.getElem?_eq_some_iff.1 hw.at_).1
      rw [List.length_append, List.length_singleton] at hlt
      by_cases q : i < ys.length
      · exact absurd hah (hw.last ys.length ⟨x.v, x.t, p⟩ q (getE_snoc _ _))
      · omega
    subst hi
    have hz : z = ⟨x.v, x.t, p⟩ := by have := hw.at_; rw [getE_snoc] at this; injection this with this; exact this.symm
    subst hz
    have hB'g : ∀ b, B' b → b ≠ g := fun b hb => by
      rcases h.gr b hb with q | q
      · exact hBg b q
      · omega
    have hgW : g < W.heap.size := Nat.lt_of_lt_of_le hgw h.cv.size
    have hsW := h.cv.size
    refine ⟨⟨by have := h.rs.le; simpa using this, h.rs.rm.cv hv, ?_⟩, ?_, fun b' hb' => .inl (h.up b' hb'), fun b' hb' => ?_, fun b' hb' => ?_, h.cv.trans hv (fun _ _ s => .inl s)⟩
    · obtain ⟨r1, r2⟩ := RA.app.1 h.rs.ra
      refine RA.app.2 ⟨r1.cv hv (fun j _ hj s => by have := s.2; omega), ?_⟩
      have r3 := r2.at (j := 0) rfl
      rw [show o + ys.length * 8 + 0 * 8 = o + ys.length * 8 by omega] at r3
      intro j u hj
      match j, hj with
      | 0, hj =>
        simp [flat] at hj; subst hj
        exact hv.cell (fun s => by have := s.2; omega) r3.1.1
      | 1, hj =>
        simp [flat] at hj; subst hj
        exact hv.cell (fun s => by have := s.2; omega) r3.1.2.1
      | 2, hj =>
        simp [flat] at hj; subst hj
        exact hv.cell (fun s => by have := s.2; omega) r3.1.2.2.1
      | 3, hj =>
        simp [flat] at hj; subst hj
        exact hv.cell (fun s => by have := s.2; omega) r3.1.2.2.2.1
      | 4, hj =>
        simp [flat] at hj; subst hj
        exact hv.cell (fun s => by have := s.2; omega) r3.1.2.2.2.2.1
      | 5, hj =>
        simp [flat] at hj; subst hj
        exact hv.cell (fun s => by have := s.2; omega) r3.1.2.2.2.2.2
      | 6, hj =>
        simp [flat] at hj; subst hj
        exact hv.cell (fun s => by have := s.2; omega) r3.2.1
      | 7, hj =>
        simp [flat] at hj; subst hj
        exact hw.cg
      | j + 8, hj => simp [flat] at hj
    · have e : T.take (k + 1) = T.take k ++ [y] := by rw [List.take_add_one, hy]; rfl
      rw [e, putF_snoc]
      have m1 : ∀ f q, LR W B' f q → LR V (fun k => B' k ∨ k = b) f q := LR.cv hv (fun _ h => .inl h) (fun b' hb' j s => hB'g b' hb' s.1)
      have m0 : LR W B' y.k t.p := LR.cv h.cv h.up (fun b' hb' j s => hBg b' hb' s.1) _ _ h3
      exact ⟨b, t.p, p, rfl, .inr rfl, by rw [← h1]; exact hw.c0, by rw [← h2]; exact hw.c1, hw.c2, hw.c3, m1 _ _ m0, m1 _ _ h.lr⟩
    · rcases hb' with q | rfl
      · exact h.gr b' q
      · exact .inr (Nat.le_trans hsW hw.nw)
    · rcases hb' with q | rfl
      · exact Nat.lt_of_lt_of_le (h.lo b' q) hv.size
      · exact cell_lt hw.c0.1
set_option maxRecDepth 100000 in
set_option maxHeartbeats 2000000 in
theorem index_no {nb : NB} {key : El → Int} (hB : Bf nb key) {q bq bo g o cap gt ot ct : Nat} {xs ts : List Rec} (w : World) (hz : Cz nb q bq bo g o xs.length cap w) (hx : RS w g o cap xs) (hl : xs.length ≤ 1000000) (ht : RS w gt ot ct ts) (htl : ts.length ≤ 1000000) (hno : ∀ t ∈ ts, ∀ x ∈ xs, ¬ key x.v < key t.v) :
    Calls Tryz.prog 88 #[slv gt ot ts.length ct, clo bq bo] w fun e w' => e = .returned (.int .i64 (-1)) ∧ Below w.heap.size w w' := by
  obtain ⟨n, hn⟩ : ∃ n, ts.length = n := ⟨_, rfl⟩
  rw [hn] at htl ⊢
  have hC : Hid (∀ (k : Nat) (t : Rec), ts[k]? = some t → ∀ wr, Below w.heap.size w wr → ((wr.cell? ⟨gt, ot + k * 8, none⟩ = some (vc0 t.v) ∧ wr.cell? ⟨gt, ot + k * 8 + 1, none⟩ = some (vc1 t.v) ∧ wr.cell? ⟨gt, ot + k * 8 + 2, none⟩ = some (vc2 t.v) ∧ wr.cell? ⟨gt, ot + k * 8 + 3, none⟩ = some (vc3 t.v) ∧ wr.cell? ⟨gt, ot + k * 8 + 4, none⟩ = some (vc4 t.v) ∧ wr.cell? ⟨gt, ot + k * 8 + 5, none⟩ = some (vc5 t.v)) ∧ wr.cell? ⟨gt, ot + k * 8 + 6, none⟩ = some (.int .i64 t.t) ∧ wr.cell? ⟨gt, ot + k * 8 + 7, none⟩ = some (ptrV t.p)) ∧ Calls Tryz.prog 77 #[t.val, .pointer (some ⟨bq, 0, none⟩), .pointer (some ⟨bo, 0, none⟩)] wr fun e w' => e = .returned (.bool false) ∧ Below w.heap.size w w') := fun k t hk wr hb => by
    refine ⟨(ht.cv (S := fun _ _ => False) (Cv.below hb) (fun _ _ _ h => h)).ra.at hk, (clo_any hB t wr (hz.below hb) (hx.cv (S := fun _ _ => False) (Cv.below hb) (fun _ _ _ h => h)) hl).mono ?_⟩
    rintro e w' (⟨rfl, _, h⟩ | ⟨i, x, b, _, h, _⟩)
    · exact ⟨rfl, hb.trans (h.mono hb.size)⟩
    · exact absurd h.ah (hno t (List.mem_of_getElem? hk) x (List.mem_of_getElem? h.at_))
  have hN := hidP hn
  clear hz hx ht hB hno hn
  unfold slv clo
  go_enter Tryz.func88, Tryz.ntmps88
  go_wp2_with fail
  go_loopw [8] (fun i wr => ∃ j : Nat, j ≤ n ∧ i = .int .i64 j ∧ Hid (Below w.heap.size w wr)) (fun i _ => n - (intOf i).toNat)
  case atStart => exact ⟨0, by omega, rfl, Below.refl _ _⟩
  case round =>
    obtain ⟨j, hj, rfl, hb⟩ := hrel
    by_cases hlt : j < n
    · obtain ⟨t, ht⟩ : ∃ t, ts[j]? = some t := ⟨_, List.getElem?_eq_getElem (by rw [hN.out]; exact hlt)⟩
      obtain ⟨⟨c0, c1, c2⟩, hcall⟩ := hC.out j t ht wr hb.out
      have hcH := hidP hcall
      have hlI : (j : Int) < (n : Int) := by omega
      unfold Rec.val at hcH
      clear ht hcall
      go_wp2_with fail
      refine hcH.out.mono ?_
      rintro e w2 ⟨rfl, hb2⟩
      have hb2H := hidP hb2
      clear hb2 hcH c0 c1 c2
      go_wp2_with fail
      exact ⟨⟨j + 1, by omega, by go_num, hb2H⟩, by simp [intOf]; omega⟩
    · obtain rfl : j = n := by omega
      go_wp2_with fail
      go_ret
      exact ⟨rfl, hb.out⟩
end Go.Proofs.YtdcidlgmnnaahaaGreat.Qw
/- slices.IndexFunc and slices.DeleteFunc with the closure of unheld: all wait. -/
namespace Go.Proofs.YtdcidlgmnnaahaaGreat.Qw
open Go.RowKit Go.Shelf Go.Lib
attribute [local go_sem] Oper.semAt_some
theorem RF.get {w : World} {B : Nat → Prop} : ∀ {xs : List Rec} {ys : List (Tr El)}, RF w B xs ys → ∀ {k : Nat} {x : Rec}, xs[k]? = some x → ∃ y, ys[k]? = some y ∧ x.v = y.v ∧ x.t = y.t ∧ LR w B y.k x.p
  | [], [], _, k, x, hk => by cases hk
  | x :: xs, y :: ys, h, 0, z, hk => by
    simp at hk; subst hk
    exact ⟨y, rfl, h.1⟩
  | x :: xs, y :: ys, h, k + 1, z, hk => by
    obtain ⟨y', h1, h2⟩ := RF.get h.2 (k := k) (x := z) (by simpa using hk)
    exact ⟨y', by simpa using h1, h2⟩
  | [], _ :: _, h, _, _, _ => h.elim
  | _ :: _, [], h, _, _, _ => h.elim
/-- All of the trees ts wait behind the last of others. -/
structure Yes (key : El → Int) (w : World) (B : Nat → Prop) (ts : List Rec) (T : List (Tr El)) (g o cap : Nat) (ys : List Rec) (x : Rec) (kx : Fo El) (gt ot ct : Nat) : Prop where
  ox : RS w g o cap (ys ++ [x])
  ol : ys.length + 1 ≤ 1000000
  lx : LR w B kx x.p
  ng : ∀ b, B b → b ≠ g
  nt : ∀ b, B b → b ≠ gt
  lo : ∀ b, B b → b < w.heap.size
  tr : RS w gt ot ct ts
  tl : ts.length ≤ 1000000
  rf : RF w B ts T
  ah : ∀ t ∈ ts, key x.v < key t.v
  dj : ∀ j, ot ≤ j → j < ot + ts.length * 8 → ¬ (gt = g ∧ o ≤ j ∧ j < o + (ys.length + 1) * 8)
theorem Yes.start {key : El → Int} {w : World} {B : Nat → Prop} {ts : List Rec} {T : List (Tr El)} {g o cap : Nat} {ys : List Rec} {x : Rec} {kx : Fo El} {gt ot ct : Nat} (h : Yes key w B ts T g o cap ys x kx gt ot ct) : DI w B T g o cap ys x kx 0 w x.p B :=
  ⟨h.ox, h.lx, fun _ h => h, fun _ h => .inl h, h.lo, Cv.refl _ _⟩
theorem Yes.call {nb : NB} {key : El → Int} (hB : Bf nb key) {q bq bo : Nat} {w : World} {B : Nat → Prop} {ts : List Rec} {T : List (Tr El)} {g o cap : Nat} {ys : List Rec} {x : Rec} {kx : Fo El} {gt ot ct : Nat} (h : Yes key w B ts T g o cap ys x kx gt ot ct) (hz : Cz nb q bq bo g o (ys.length + 1) cap w) (nq : q ≠ g) (nbq : bq ≠ g) (nbo : bo ≠ g)
    {k : Nat} {t : Rec} (hk : ts[k]? = some t) {W : World} {p : Option Nat} {B' : Nat → Prop} (hd : DI w B T g o cap ys x kx k W p B') :
    ((W.cell? ⟨gt, ot + k * 8, none⟩ = some (vc0 t.v) ∧ W.cell? ⟨gt, ot + k * 8 + 1, none⟩ = some (vc1 t.v) ∧ W.cell? ⟨gt, ot + k * 8 + 2, none⟩ = some (vc2 t.v) ∧ W.cell? ⟨gt, ot + k * 8 + 3, none⟩ = some (vc3 t.v) ∧ W.cell? ⟨gt, ot + k * 8 + 4, none⟩ = some (vc4 t.v) ∧ W.cell? ⟨gt, ot + k * 8 + 5, none⟩ = some (vc5 t.v)) ∧ W.cell? ⟨gt, ot + k * 8 + 6, none⟩ = some (.int .i64 t.t) ∧ W.cell? ⟨gt, ot + k * 8 + 7, none⟩ = some (ptrV t.p)) ∧
    Calls Tryz.prog 77 #[t.val, .pointer (some ⟨bq, 0, none⟩), .pointer (some ⟨bo, 0, none⟩)] W fun e V => e = .returned (.bool true) ∧ ∃ p' B'', DI w B T g o cap ys x kx (k + 1) V p' B'' := by
  obtain ⟨y, hy, h1, h2, h3⟩ := h.rf.get hk
  refine ⟨(h.tr.cv hd.cv (fun j h1 h2 s => h.dj j h1 h2 ⟨s.1, by have := s.2; omega, by have := s.2; omega⟩)).ra.at hk, ?_⟩
  have hz2 := hz.cv hd.cv (fun s => nq s.1) (fun s => nbq s.1) (fun s => nbo s.1)
  have hc := clo_any hB (xs := ys ++ [⟨x.v, x.t, p⟩]) t W (by simpa using hz2) hd.rs (by simpa using h.ol)
  refine hc.mono ?_
  intro e V hw
  exact hd.step hy h1 h2 h3 h.ng h.ox.rm.lt (h.ah t (List.mem_of_getElem? hk)) hw
set_option maxRecDepth 100000 in
set_option maxHeartbeats 2000000 in
theorem index_yes {nb : NB} {key : El → Int} (hB : Bf nb key) {q bq bo : Nat} {w : World} {B : Nat → Prop} {ts : List Rec} {T : List (Tr El)} {g o cap : Nat} {ys : List Rec} {x : Rec} {kx : Fo El} {gt ot ct : Nat} (h : Yes key w B ts T g o cap ys x kx gt ot ct) (hz : Cz nb q bq bo g o (ys.length + 1) cap w) (nq : q ≠ g) (nbq : bq ≠ g) (nbo : bo ≠ g) (h0 : 0 < ts.length) :
    Calls Tryz.prog 88 #[slv gt ot ts.length ct, clo bq bo] w fun e W => e = .returned (.int .i64 0) ∧ ∃ p B', DI w B T g o cap ys x kx 1 W p B' := by
  obtain ⟨t, hk⟩ : ∃ t, ts[0]? = some t := ⟨_, List.getElem?_eq_getElem h0⟩
  obtain ⟨⟨c0, c1, c2⟩, hc⟩ := h.call hB hz nq nbq nbo hk h.start
  obtain ⟨n, hn⟩ : ∃ n, ts.length = n := ⟨_, rfl⟩
  have htl := h.tl
  rw [hn] at h0 htl ⊢
  rw [show ot + 0 * 8 = ot by omega] at c0 c1 c2
  have hcH := hidP hc
  have h0I : (0 : Int) < (n : Int) := by omega
  unfold Rec.val at hcH
  clear hc hk hz h hn hB
  unfold slv clo
  go_enter Tryz.func88, Tryz.ntmps88
  go_wp2_with fail
  go_loopw [8] (fun i wr => i = .int .i64 0 ∧ Hid (wr = w)) (fun _ _ => 0)
  case atStart => exact ⟨rfl, rfl⟩
  case round =>
    obtain ⟨rfl, hw⟩ := hrel
    obtain rfl := hw.out
    go_wp2_with fail
    refine hcH.out.mono ?_
    rintro e w2 ⟨rfl, hd⟩
    have hdH := hidP hd
    clear hd hcH c0 c1 c2
    go_wp2_with fail
    go_ret
    exact ⟨rfl, hdH.out⟩
set_option maxRecDepth 100000 in
set_option maxHeartbeats 2000000 in
theorem delete_no {nb : NB} {key : El → Int} (hB : Bf nb key) {q bq bo g o cap gt ot ct : Nat} {xs ts : List Rec} (w : World) (hz : Cz nb q bq bo g o xs.length cap w) (hx : RS w g o cap xs) (hl : xs.length ≤ 1000000) (ht : RS w gt ot ct ts) (htl : ts.length ≤ 1000000) (hno : ∀ t ∈ ts, ∀ x ∈ xs, ¬ key x.v < key t.v) :
    Calls Tryz.prog 76 #[slv gt ot ts.length ct, clo bq bo] w fun e w' => e = .returned (slv gt ot ts.length ct) ∧ Below w.heap.size w w' := by
  have hI := hidP (index_no hB w hz hx hl ht htl hno)
  obtain ⟨n, hn⟩ : ∃ n, ts.length = n := ⟨_, rfl⟩
  rw [hn] at hI ⊢
  clear hz hx ht htl hno hn hB hl
  unfold slv clo at *
  go_enter Tryz.func76, Tryz.ntmps76
  go_wp2_with fail
  refine hI.out.mono ?_
  rintro e w2 ⟨rfl, hb⟩
  have hbH := hidP hb
  clear hb hI
  go_wp2_with fail
  go_ret
  exact ⟨rfl, hbH.out⟩
set_option maxRecDepth 100000 in
set_option maxHeartbeats 4000000 in
theorem delete_yes {nb : NB} {key : El → Int} (hB : Bf nb key) {q bq bo : Nat} {w : World} {B : Nat → Prop} {ts : List Rec} {T : List (Tr El)} {g o cap : Nat} {ys : List Rec} {x : Rec} {kx : Fo El} {gt ot ct : Nat} (h : Yes key w B ts T g o cap ys x kx gt ot ct) (hz : Cz nb q bq bo g o (ys.length + 1) cap w) (nq : q ≠ g) (nbq : bq ≠ g) (nbo : bo ≠ g) (h0 : 0 < ts.length) :
    Calls Tryz.prog 76 #[slv gt ot ts.length ct, clo bq bo] w fun e V => e = .returned (slv gt ot 0 ct) ∧ ∃ W p B' vs, vs.length = ts.length * 8 ∧ DI w B T g o cap ys x kx ts.length W p B' ∧ V = W.setCells gt ot vs := by
  have hI := hidP (index_yes hB h hz nq nbq nbo h0)
  have hC : Hid (∀ (k : Nat) (t : Rec), ts[k]? = some t → ∀ W p B', DI w B T g o cap ys x kx k W p B' → _) := fun k t hk W p B' hd => h.call hB hz nq nbq nbo hk hd
  obtain ⟨n, hn⟩ : ∃ n, ts.length = n := ⟨_, rfl⟩
  have hfin : Hid (∀ W p B', DI w B T g o cap ys x kx n W p B' → ∃ vs : List Value, vs.length = n * 8 ∧ (Builtin.clear_ #[52] 0 #[slv gt ot n ct]).run Tryz.prog W = .ok (.tuple #[]) (W.setCells gt ot vs)) := fun W p B' hd => by
    obtain ⟨m, rfl⟩ : ∃ m, n = m + 1 := ⟨n - 1, by omega⟩
    have hle := h.tr.le
    have r := (h.tr.rm.cv hd.cv).sub (a := 0) (c := m + 1) (by omega)
    rw [show ot + 0 * 8 = ot by omega] at r
    exact run_clearR W 0 r
  have htl := h.tl
  have hct := h.tr.le
  have hcm := h.tr.rm.mx
  rw [hn] at hI h0 htl hct ⊢
  have hN := hidP hn
  have h0I : (0 : Int) < (n : Int) := by omega
  clear h hz hn hB
  unfold slv clo at *
  go_enter Tryz.func76, Tryz.ntmps76
  go_wp2_with fail
  refine hI.out.mono ?_
  rintro e w1 ⟨rfl, hd⟩
  have hdH := hidP hd
  clear hd hI
  go_wp2_with fail
  go_loopw [5, 6] (fun i5 i wr => ∃ j : Nat, i5 = .int .i64 0 ∧ 1 ≤ j ∧ j ≤ n ∧ i = .int .i64 j ∧ Hid (∃ p B', DI w B T g o cap ys x kx j wr p B')) (fun _ i _ => n - (intOf i).toNat)
  case atStart => exact ⟨1, rfl, by omega, by omega, rfl, hdH⟩
  case round =>
    obtain ⟨j, rfl, hj1, hj, rfl, hd⟩ := hrel
    by_cases hlt : j < n
    · obtain ⟨t, ht⟩ : ∃ t, ts[j]? = some t := ⟨_, List.getElem?_eq_getElem (by rw [hN.out]; exact hlt)⟩
      obtain ⟨p, B', hd'⟩ := hd.out
      obtain ⟨⟨c0, c1, c2⟩, _⟩ := hC.out j t ht wr p B' hd'
      obtain ⟨A, hA⟩ : ∃ A, wr.alloc (.cells #[vc0 t.v, vc1 t.v, vc2 t.v, vc3 t.v, vc4 t.v, vc5 t.v, .int .i64 t.t, ptrV t.p] 94) = A := ⟨_, rfl⟩
      have bA : Below wr.heap.size wr A := by rw [← hA]; exact (Below.refl _ _).alloc (Nat.le_refl _) _
      have n0 : A.cell? ⟨wr.heap.size, 0, none⟩ = some (vc0 t.v) ∧ A.cell? ⟨wr.heap.size, 1, none⟩ = some (vc1 t.v) ∧ A.cell? ⟨wr.heap.size, 2, none⟩ = some (vc2 t.v) ∧ A.cell? ⟨wr.heap.size, 3, none⟩ = some (vc3 t.v) ∧ A.cell? ⟨wr.heap.size, 4, none⟩ = some (vc4 t.v) ∧ A.cell? ⟨wr.heap.size, 5, none⟩ = some (vc5 t.v) := by rw [← hA]; exact ⟨cell_at rfl rfl, cell_at rfl rfl, cell_at rfl rfl, cell_at rfl rfl, cell_at rfl rfl, cell_at rfl rfl⟩
      have n1 : A.cell? ⟨wr.heap.size, 6, none⟩ = some (.int .i64 t.t) := by rw [← hA]; exact cell_at rfl rfl
      have n2 : A.cell? ⟨wr.heap.size, 7, none⟩ = some (ptrV t.p) := by rw [← hA]; exact cell_at rfl rfl
      have hcH := hidP (hC.out j t ht A p B' (hd'.below bA)).2
      have hlI : (j : Int) < (n : Int) := by omega
      unfold Rec.val at hcH
      clear ht hd' bA
      go_wp2_with (rw [hA])
      refine hcH.out.mono ?_
      rintro e w2 ⟨rfl, hd2⟩
      have hd2H := hidP hd2
      clear hd2 hcH c0 c1 c2 n0 n1 n2 hA
      go_wp2_with fail
      exact ⟨⟨j + 1, rfl, by omega, by omega, by go_num, hd2H⟩, by simp [intOf]; omega⟩
    · obtain rfl : j = n := by omega
      obtain ⟨p, B', hd'⟩ := hd.out
      obtain ⟨vs, hvs, hrun⟩ := hfin.out wr p B' hd'
      have fin := hidP (⟨wr, p, B', vs, hvs, hd', rfl⟩ : ∃ W p B' vs', vs'.length = j * 8 ∧ DI w B T g o cap ys x kx j W p B' ∧ wr.setCells gt ot vs = W.setCells gt ot vs')
      have hc0 : ¬ ct = 0 := by omega
      clear hd' hvs hfin hC
      go_wp2_with fail
      go_ret
      exact ⟨rfl, fin.out⟩
end Go.Proofs.YtdcidlgmnnaahaaGreat.Qw
/- unheld. -/
namespace Go.Proofs.YtdcidlgmnnaahaaGreat.Qw
open Go.RowKit Go.Shelf Go.Lib
attribute [local go_sem] Oper.semAt_some
def qp (q : Nat) : Value := .pointer (some ⟨q, 0, none⟩)
set_option maxRecDepth 100000 in
set_option maxHeartbeats 1000000 in
theorem unheld_empty (q : Nat) (p p2 : Option Addr) (n c c2 : Nat) (w : World) :
    Calls Tryz.prog 59 #[qp q, .slice p n c, .slice p2 0 c2] w fun e V => e = .returned (.slice p n c) ∧ Below w.heap.size w V := by
  obtain ⟨W0, hW0⟩ : ∃ W0, (w.alloc (.cells #[qp q] 58)).alloc (.cells #[.slice p2 0 c2] 52) = W0 := ⟨_, rfl⟩
  have b0 : Hid (Below w.heap.size w W0) := by show Below _ _ _; rw [← hW0]; exact ((Below.refl _ _).alloc (Nat.le_refl _) _).alloc (by simp) _
  have k1 : W0.cell? ⟨w.heap.size + 1, 0, none⟩ = some (.slice p2 0 c2) := by rw [← hW0]; exact cell_at (by simp) rfl
  unfold qp at *
  go_enter Tryz.func59, Tryz.ntmps59
  go_wp2_with (rw [hW0])
  go_ret
  exact ⟨rfl, b0.out⟩
set_option maxRecDepth 100000 in
set_option maxHeartbeats 1000000 in
theorem unheld_no {nb : NB} {key : El → Int} (hB : Bf nb key) {q g o cap gt ot ct : Nat} {xs ts : List Rec} (w : World) (hq : w.cell? ⟨q, 0, none⟩ = some (fnV nb)) (hx : RS w g o cap xs) (hl : xs.length ≤ 1000000) (h0 : 0 < xs.length) (ht : RS w gt ot ct ts) (htl : ts.length ≤ 1000000) (hno : ∀ t ∈ ts, ∀ x ∈ xs, ¬ key x.v < key t.v) :
    Calls Tryz.prog 59 #[qp q, slv gt ot ts.length ct, slv g o xs.length cap] w fun e V => e = .returned (slv gt ot ts.length ct) ∧ Below w.heap.size w V := by
  obtain ⟨W0, hW0⟩ : ∃ W0, (w.alloc (.cells #[qp q] 58)).alloc (.cells #[slv g o xs.length cap] 52) = W0 := ⟨_, rfl⟩
  have b0 : Below w.heap.size w W0 := by rw [← hW0]; exact ((Below.refl _ _).alloc (Nat.le_refl _) _).alloc (by simp) _
  have k0 : W0.cell? ⟨w.heap.size, 0, none⟩ = some (qp q) := by rw [← hW0]; exact (Mv.alloc (fun _ => False) _ _).cell (fun h => h) (cell_at rfl rfl)
  have k1 : W0.cell? ⟨w.heap.size + 1, 0, none⟩ = some (slv g o xs.length cap) := by rw [← hW0]; exact cell_at (by simp) rfl
  have cb := Cv.below (S := fun _ _ => False) b0
  have hD := hidP (delete_no hB W0 (bq := w.heap.size) (bo := w.heap.size + 1) ⟨bcell b0 (cell_lt hq) hq, k0, k1⟩ (hx.cv cb (fun _ _ _ h => h)) hl (ht.cv cb (fun _ _ _ h => h)) htl hno)
  have b0H := hidP b0
  obtain ⟨n, hn⟩ : ∃ n, xs.length = n := ⟨_, rfl⟩
  obtain ⟨m, hm⟩ : ∃ m, ts.length = m := ⟨_, rfl⟩
  rw [hn] at k1 hW0 h0 hl ⊢
  rw [hm] at hD ⊢
  have hne : ¬ n = 0 := by omega
  have hneI : ((n : Int) == 0) = false := by simp; omega
  clear hB hq hx ht hno hn hm b0 k0 cb htl
  unfold qp slv clo at *
  go_enter Tryz.func59, Tryz.ntmps59
  go_wp2_with (rw [hW0])
  refine hD.out.mono ?_
  rintro e V ⟨rfl, hb⟩
  have hbH := hidP (b0H.out.trans (hb.mono b0H.out.size))
  clear hb hD
  go_wp2_with fail
  go_ret
  exact ⟨rfl, hbH.out⟩
/-- The trees T wait behind the last of others, in a world V. -/
structure UY (w : World) (B : Nat → Prop) (T : List (Tr El)) (g o cap : Nat) (ys : List Rec) (x : Rec) (kx : Fo El) (gt ot nt : Nat) (V : World) (p : Option Nat) (B' : Nat → Prop) : Prop where
  rs : RS V g o cap (ys ++ [⟨x.v, x.t, p⟩])
  lr : LR V B' (putF T kx) p
  up : ∀ b, B b → B' b
  gr : Gr B w B'
  lo : ∀ b, B' b → b < V.heap.size
  cv : Cv (fun k j => (k = g ∧ j = o + ys.length * 8 + 7) ∨ (k = gt ∧ ot ≤ j ∧ j < ot + nt * 8)) w V
theorem DI.fin {key : El → Int} {w w0 : World} {B : Nat → Prop} {ts : List Rec} {T : List (Tr El)} {g o cap : Nat} {ys : List Rec} {x : Rec} {kx : Fo El} {gt ot ct : Nat} (h : Yes key w B ts T g o cap ys x kx gt ot ct) (b0 : Below w0.heap.size w0 w) {W : World} {p : Option Nat} {B' : Nat → Prop} (hd : DI w B T g o cap ys x kx ts.length W p B') {vs : List Value} (hv : vs.length = ts.length * 8) : UY w0 B T g o cap ys x kx gt ot ts.length (W.setCells gt ot vs) p B' := by
  have m := Cv.cells W gt ot vs
  rw [hv] at m
  have e : T.take ts.length = T := by rw [h.rf.len]; exact List.take_length
  have hlr := hd.lr
  rw [e] at hlr
  have ngt : ∀ b, B' b → b ≠ gt := fun b hb => by
    rcases hd.gr b hb with q | q
    · exact h.nt b q
    · have := h.tr.rm.lt; omega
  refine ⟨hd.rs.cv m (fun j h1 h2 s => h.dj j s.2.1 s.2.2 ⟨s.1.symm, h1, by simpa using h2⟩), LR.cv m (fun _ h => h) (fun b hb j s => ngt b hb s.1) _ _ hlr, hd.up, fun b hb => (hd.gr b hb).imp id (fun q => Nat.le_trans b0.size q), fun b hb => Nat.lt_of_lt_of_le (hd.lo b hb) m.size, ?_⟩
  exact ((Cv.below (S := fun k j => (k = g ∧ j = o + ys.length * 8 + 7) ∨ (k = gt ∧ ot ≤ j ∧ j < ot + ts.length * 8)) b0).trans hd.cv (fun k j s => .inl (.inl s))).trans m (fun k j s => .inl (.inr s))
set_option maxRecDepth 100000 in
set_option maxHeartbeats 1000000 in
theorem unheld_yes {nb : NB} {key : El → Int} (hB : Bf nb key) {q : Nat} {w : World} {B : Nat → Prop} {ts : List Rec} {T : List (Tr El)} {g o cap : Nat} {ys : List Rec} {x : Rec} {kx : Fo El} {gt ot ct : Nat} (h : Yes key w B ts T g o cap ys x kx gt ot ct) (hq : w.cell? ⟨q, 0, none⟩ = some (fnV nb)) (nq : q ≠ g) (h0 : 0 < ts.length) :
    Calls Tryz.prog 59 #[qp q, slv gt ot ts.length ct, slv g o (ys.length + 1) cap] w fun e V => e = .returned (slv gt ot 0 ct) ∧ ∃ p B', UY w B T g o cap ys x kx gt ot ts.length V p B' := by
  obtain ⟨W0, hW0⟩ : ∃ W0, (w.alloc (.cells #[qp q] 58)).alloc (.cells #[slv g o (ys.length + 1) cap] 52) = W0 := ⟨_, rfl⟩
  have b0 : Below w.heap.size w W0 := by rw [← hW0]; exact ((Below.refl _ _).alloc (Nat.le_refl _) _).alloc (by simp) _
  have k0 : W0.cell? ⟨w.heap.size, 0, none⟩ = some (qp q) := by rw [← hW0]; exact (Mv.alloc (fun _ => False) _ _).cell (fun h => h) (cell_at rfl rfl)
  have k1 : W0.cell? ⟨w.heap.size + 1, 0, none⟩ = some (slv g o (ys.length + 1) cap) := by rw [← hW0]; exact cell_at (by simp) rfl
  have cb := Cv.below (S := fun _ _ => False) b0
  have hY : Yes key W0 B ts T g o cap ys x kx gt ot ct := ⟨h.ox.cv cb (fun _ _ _ h => h), h.ol, LR.cv cb (fun _ h => h) (fun _ _ _ h => h) _ _ h.lx, h.ng, h.nt, fun b hb => Nat.lt_of_lt_of_le (h.lo b hb) b0.size, h.tr.cv cb (fun _ _ _ h => h), h.tl, RF.cv cb (fun _ h => h) (fun _ _ _ h => h) _ _ h.rf, h.ah, h.dj⟩
  have hg := h.ox.rm.lt
  have hD := delete_yes hB hY (bq := w.heap.size) (bo := w.heap.size + 1) ⟨bcell b0 (cell_lt hq) hq, k0, k1⟩ nq (by omega) (by omega) h0
  have hD2 : Hid (Calls Tryz.prog 76 #[slv gt ot ts.length ct, clo w.heap.size (w.heap.size + 1)] W0 fun e V => e = .returned (slv gt ot 0 ct) ∧ ∃ p B', UY w B T g o cap ys x kx gt ot ts.length V p B') := by
    refine hD.mono ?_
    rintro e V ⟨rfl, W, p, B', vs, hv, hd, rfl⟩
    exact ⟨rfl, p, B', DI.fin hY b0 hd hv⟩
  obtain ⟨n, hn⟩ : ∃ n, ys.length + 1 = n := ⟨_, rfl⟩
  have hol := h.ol
  have hneI : ((n : Int) == 0) = false := by simp; omega
  have hne : ¬ n = 0 := by omega
  rw [hn] at k1 hW0 hol ⊢
  have hnH := hidP hn
  clear hB hq h b0 k0 cb hY hg hD hn
  unfold qp slv clo at *
  go_enter Tryz.func59, Tryz.ntmps59
  go_wp2_with (rw [hW0])
  refine hD2.out.mono ?_
  rintro e V ⟨rfl, hb⟩
  have hbH := hidP hb
  clear hb hD2
  go_wp2_with fail
  go_ret
  exact ⟨rfl, hbH.out⟩
end Go.Proofs.YtdcidlgmnnaahaaGreat.Qw
