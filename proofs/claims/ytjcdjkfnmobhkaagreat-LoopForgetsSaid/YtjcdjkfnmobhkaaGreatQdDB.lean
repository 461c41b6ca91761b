/- slices.IndexFunc and slices.DeleteFunc with the closure of unheld: none waits; all wait. -/
import Derived.Test.YtjcdjkfnmobhkaaGreatQdUB
namespace Go.Proofs.YtjcdjkfnmobhkaaGreat.Qd
open Go.RowKit Go.Shelf Go.Lib
attribute [local go_sem] Oper.semAt_some
theorem putF_snoc {α : Type} (ts : List (Tr α)) (t : Tr α) (k : Fo α) : putF (ts ++ [t]) k = .cons t.v t.t t.k (putF ts k) := by simp [putF]
/-- The first k trees wait behind the last of others: its list is at p. -/
structure DI (w : World) (B : Nat → Prop) (T : List (Tr El)) (g o cap : Nat) (ys : List Rec) (x : Rec) (kx : Fo El) (k : Nat) (W : World) (p : Option Nat) (B' : Nat → Prop) : Prop where
  rs : RS W g o cap (ys ++ [⟨x.v, x.t, p⟩])
  lr : LR W B' (putF (T.take k) kx) p
  up : ∀ b, B b → B' b
  gr : Gr B w B'
  lo : ∀ b, B' b → b < W.heap.size
  cv : Cv (fun k j => k = g ∧ j = o + ys.length * 5 + 4) w W
theorem DI.below {w : World} {B : Nat → Prop} {T : List (Tr El)} {g o cap : Nat} {ys : List Rec} {x : Rec} {kx : Fo El} {k : Nat} {W V : World} {p : Option Nat} {B' : Nat → Prop} (h : DI w B T g o cap ys x kx k W p B') (b : Below W.heap.size W V) : DI w B T g o cap ys x kx k V p B' :=
  ⟨h.rs.cv (S := fun _ _ => False) (Cv.below b) (fun _ _ _ h => h), LR.cv (S := fun _ _ => False) (Cv.below b) (fun _ h => h) (fun _ _ _ h => h) _ _ h.lr, h.up, h.gr, fun b' hb' => Nat.lt_of_lt_of_le (h.lo b' hb') b.size, h.cv.trans (T := fun _ _ => False) (Cv.below b) (fun _ _ h => h.elim)⟩
theorem getE_snoc {α : Type} (ys : List α) (x : α) : (ys ++ [x])[ys.length]? = some x := by simp
/-- One more waits. -/
theorem DI.step {key : El → Int} {w : World} {B : Nat → Prop} {T : List (Tr El)} {g o cap : Nat} {ys : List Rec} {x : Rec} {kx : Fo El} {k : Nat} {W V : World} {p : Option Nat} {B' : Nat → Prop} (h : DI w B T g o cap ys x kx k W p B') {t : Rec} {y : Tr El} (hy : T[k]? = some y) (h1 : t.v = y.v) (h2 : t.t = y.t) (h3 : LR w B y.k t.p) (hBg : ∀ b, B b → b ≠ g) (hgw : g < w.heap.size) (hah : key x.v < key t.v)
    {e : Ending} (hw : WP key (ys ++ [⟨x.v, x.t, p⟩]) t g o W e V) : e = .returned (.bool true) ∧ ∃ p' B'', DI w B T g o cap ys x kx (k + 1) V p' B'' := by
  rcases hw with ⟨_, hno, _⟩ | ⟨i, z, b, rfl, hw, hv⟩
  · exact absurd hah (hno ⟨x.v, x.t, p⟩ (by simp))
  · refine ⟨rfl, some b, fun k => B' k ∨ k = b, ?_⟩
    have hi : i = ys.length := by
      have hlt := (List.getElem?_eq_some_iff.1 hw.at_).1
      rw [List.length_append, List.length_singleton] at hlt
      by_cases q : i < ys.length
      · exact absurd hah (hw.last ys.length ⟨x.v, x.t, p⟩ q (getE_snoc _ _))
      · omega
    subst hi
    have hz : z = ⟨x.v, x.t, p⟩ := by have := hw.at_; rw [getE_snoc] at this; injection this with this; exact this.symm
    subst hz
    have hB'g : ∀ b, B' b → b ≠ g := fun b hb => by
      rcases h.gr b hb with q | q
      · exact hBg b q
      · omega
    have hgW : g < W.heap.size := Nat.lt_of_lt_of_le hgw h.cv.size
    have hsW := h.cv.size
    refine ⟨⟨by have := h.rs.le; simpa using this, h.rs.rm.cv hv, ?_⟩, ?_, fun b' hb' => .inl (h.up b' hb'), fun b' hb' => ?_, fun b' hb' => ?_, h.cv.trans hv (fun _ _ s => .inl s)⟩
    · obtain ⟨r1, r2⟩ := RA.app.1 h.rs.ra
      refine RA.app.2 ⟨r1.cv hv (fun j _ hj s => by have := s.2; omega), ?_⟩
      have r3 := r2.at (j := 0) rfl
      rw [show o + ys.length * 5 + 0 * 5 = o + ys.length * 5 by omega] at r3
      intro j u hj
      match j, hj with
      | 0, hj =>
        simp [flat] at hj; subst hj
        exact hv.cell (fun s => by have := s.2; omega) r3.1.1
      | 1, hj =>
        simp [flat] at hj; subst hj
        exact hv.cell (fun s => by have := s.2; omega) r3.1.2.1
      | 2, hj =>
        simp [flat] at hj; subst hj
        exact hv.cell (fun s => by have := s.2; omega) r3.1.2.2
      | 3, hj =>
        simp [flat] at hj; subst hj
        exact hv.cell (fun s => by have := s.2; omega) r3.2.1
      | 4, hj =>
        simp [flat] at hj; subst hj
        exact hw.cg
      | j + 5, hj => simp [flat] at hj
    · have e : T.take (k + 1) = T.take k ++ [y] := by rw [List.take_add_one, hy]; rfl
      rw [e, putF_snoc]
      have m1 : ∀ f q, LR W B' f q → LR V (fun k => B' k ∨ k = b) f q := LR.cv hv (fun _ h => .inl h) (fun b' hb' j s => hB'g b' hb' s.1)
      have m0 : LR W B' y.k t.p := LR.cv h.cv h.up (fun b' hb' j s => hBg b' hb' s.1) _ _ h3
      exact ⟨b, t.p, p, rfl, .inr rfl, by rw [← h1]; exact hw.c0, by rw [← h2]; exact hw.c1, hw.c2, hw.c3, m1 _ _ m0, m1 _ _ h.lr⟩
    · rcases hb' with q | rfl
      · exact h.gr b' q
      · exact .inr (Nat.le_trans hsW hw.nw)
    · rcases hb' with q | rfl
      · exact Nat.lt_of_lt_of_le (h.lo b' q) hv.size
      · exact cell_lt hw.c0.1
set_option maxRecDepth 100000 in
set_option maxHeartbeats 2000000 in
theorem index_no {nb : NB} {key : El → Int} (hB : Bf nb key) {q bq bo g o cap gt ot ct : Nat} {xs ts : List Rec} (w : World) (hz : Cz nb q bq bo g o xs.length cap w) (hx : RS w g o cap xs) (hl : xs.length ≤ 1000000) (ht : RS w gt ot ct ts) (htl : ts.length ≤ 1000000) (hno : ∀ t ∈ ts, ∀ x ∈ xs, ¬ key x.v < key t.v) :
    Calls Tryz.prog 119 #[slv gt ot ts.length ct, clo bq bo] w fun e w' => e = .returned (.int .i64 (-1)) ∧ Below w.heap.size w w' := by
  obtain ⟨n, hn⟩ : ∃ n, ts.length = n := ⟨_, rfl⟩
  rw [hn] at htl ⊢
  have hC : Hid (∀ (k : Nat) (t : Rec), ts[k]? = some t → ∀ wr, Below w.heap.size w wr → ((wr.cell? ⟨gt, ot + k * 5, none⟩ = some (vc0 t.v) ∧ wr.cell? ⟨gt, ot + k * 5 + 1, none⟩ = some (vc1 t.v) ∧ wr.cell? ⟨gt, ot + k * 5 + 2, none⟩ = some (vc2 t.v)) ∧ wr.cell? ⟨gt, ot + k * 5 + 3, none⟩ = some (.int .i64 t.t) ∧ wr.cell? ⟨gt, ot + k * 5 + 4, none⟩ = some (ptrV t.p)) ∧ Calls Tryz.prog 106 #[t.val, .pointer (some ⟨bq, 0, none⟩), .pointer (some ⟨bo, 0, none⟩)] wr fun e w' => e = .returned (.bool false) ∧ Below w.heap.size w w') := fun k t hk wr hb => by
    refine ⟨(ht.cv (S := fun _ _ => False) (Cv.below hb) (fun _ _ _ h => h)).ra.at hk, (clo_any hB t wr (hz.below hb) (hx.cv (S := fun _ _ => False) (Cv.below hb) (fun _ _ _ h => h)) hl).mono ?_⟩
    rintro e w' (⟨rfl, _, h⟩ | ⟨i, x, b, _, h, _⟩)
    · exact ⟨rfl, hb.trans (h.mono hb.size)⟩
    · exact absurd h.ah (hno t (List.mem_of_getElem? hk) x (List.mem_of_getElem? h.at_))
  have hN := hidP hn
  clear hz hx ht hB hno hn
  unfold slv clo
  go_enter Tryz.func119, Tryz.ntmps119
  go_wp2_with fail
  go_loopw [8] (fun i wr => ∃ j : Nat, j ≤ n ∧ i = .int .i64 j ∧ Hid (Below w.heap.size w wr)) (fun i _ => n - (intOf i).toNat)
  case atStart => exact ⟨0, by omega, rfl, Below.refl _ _⟩
  case round =>
    obtain ⟨j, hj, rfl, hb⟩ := hrel
    by_cases hlt : j < n
    · obtain ⟨t, ht⟩ : ∃ t, ts[j]? = some t := ⟨_, List.getElem?_eq_getElem (by rw [hN.out]; exact hlt)⟩
      obtain ⟨⟨c0, c1, c2⟩, hcall⟩ := hC.out j t ht wr hb.out
      have hcH := hidP hcall
      have hlI : (j : Int) < (n : Int) := by omega
      unfold Rec.val at hcH
      clear ht hcall
      go_wp2_with fail
      refine hcH.out.mono ?_
      rintro e w2 ⟨rfl, hb2⟩
      have hb2H := hidP hb2
      clear hb2 hcH c0 c1 c2
      go_wp2_with fail
      exact ⟨⟨j + 1, by omega, by go_num, hb2H⟩, by simp [intOf]; omega⟩
    · obtain rfl : j = n := by omega
      go_wp2_with fail
      go_ret
      exact ⟨rfl, hb.out⟩
end Go.Proofs.YtjcdjkfnmobhkaaGreat.Qd
