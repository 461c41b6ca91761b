/- The list of trees as a row; slices.AppendSeq, slices.Collect of it. -/
import Derived.Test.YtjcdjkfnmobhkaaGreatQdLB
namespace Go.Proofs.YtjcdjkfnmobhkaaGreat.Qd
open Go.RowKit Go.Shelf Go.Lib
attribute [local go_sem] Oper.semAt_some
/-- A list's records, from block to block. -/
def LC (w : World) (B : Nat → Prop) : List Rec → Option Nat → Prop
  | [], p => p = none
  | x :: xs, p => ∃ b pr, p = some b ∧ B b ∧ (w.cell? ⟨b, 0, none⟩ = some (vc0 x.v) ∧ w.cell? ⟨b, 1, none⟩ = some (vc1 x.v) ∧ w.cell? ⟨b, 2, none⟩ = some (vc2 x.v)) ∧ w.cell? ⟨b, 3, none⟩ = some (.int .i64 x.t) ∧ w.cell? ⟨b, 4, none⟩ = some (ptrV x.p) ∧ w.cell? ⟨b, 5, none⟩ = some (ptrV pr) ∧ LC w B xs pr
theorem LC.mv {F : Nat → Prop} {w V : World} {B : Nat → Prop} (m : Mv F w V) (hF : ∀ k, B k → ¬ F k) : ∀ (xs : List Rec) (p : Option Nat), LC w B xs p → LC V B xs p
  | [], _, h => h
  | x :: xs, p, h => by
    obtain ⟨b, pr, rfl, hb, c0, c1, c2, c3, h⟩ := h
    have nb := hF b hb
    exact ⟨b, pr, rfl, hb, ⟨m.cell (a := ⟨b, 0, none⟩) nb c0.1, m.cell (a := ⟨b, 1, none⟩) nb c0.2.1, m.cell (a := ⟨b, 2, none⟩) nb c0.2.2⟩, m.cell (a := ⟨b, 3, none⟩) nb c1, m.cell (a := ⟨b, 4, none⟩) nb c2, m.cell (a := ⟨b, 5, none⟩) nb c3, LC.mv m hF xs pr h⟩
theorem LR.chain {w : World} {B : Nat → Prop} : ∀ (f : Fo El) (p : Option Nat), LR w B f p → ∃ xs, LC w B xs p ∧ RF w B xs f.toL
  | .nil, p, h => ⟨[], h, trivial⟩
  | .cons v t k r, p, h => by
    obtain ⟨b, pk, pr, rfl, hb, c0, c1, c2, c3, hk, hr⟩ := h
    obtain ⟨xs, h1, h2⟩ := LR.chain r pr hr
    exact ⟨⟨v, t, pk⟩ :: xs, ⟨b, pr, rfl, hb, c0, c1, c2, c3, h1⟩, ⟨rfl, rfl, hk⟩, h2⟩
/-- How many blocks follow. -/
def chn (w : World) : Nat → Value → Nat
  | n + 1, .pointer (some a) => match w.cell? ⟨a.block, 5, none⟩ with
    | some v => chn w n v + 1
    | none => 0
  | _, _ => 0
theorem LC.chn {w : World} {B : Nat → Prop} : ∀ (xs : List Rec) (p : Option Nat) (n : Nat), LC w B xs p → xs.length ≤ n → chn w n (ptrV p) = xs.length
  | [], p, n, h, _ => by
    have : p = none := h
    subst this
    cases n <;> rfl
  | x :: xs, p, 0, _, hn => by simp at hn
  | x :: xs, p, n + 1, h, hn => by
    obtain ⟨b, pr, rfl, hb, c0, c1, c2, c3, h⟩ := h
    have := LC.chn xs pr n h (by simpa using hn)
    show (match w.cell? ⟨b, 5, none⟩ with | some v => Qd.chn w n v + 1 | none => 0) = _
    rw [c3]
    show Qd.chn w n (ptrV pr) + 1 = _
    rw [this]; rfl
def encR (x : Rec) : Array Value := #[x.val]
set_option maxRecDepth 100000 in
set_option maxHeartbeats 2000000 in
theorem all_row (xs : List Rec) (p : Option Nat) (bl : Nat) (B E : Nat → Prop) (W : World) (cv : W.cell? ⟨bl, 0, none⟩ = some (ptrV p)) (eb : ¬ E bl) (hx : LC W B xs p) (hE : ∀ k, B k → ¬ E k) (lo : ∀ k, B k → k < W.heap.size) :
    Row Tryz.prog 124 #[.pointer (some ⟨bl, 0, none⟩)] encR xs E W := by
  intro u J Jx E1 V m gr hJ hJx hY h0
  have d1 := m.cell (a := ⟨bl, 0, none⟩) eb cv
  have hxV := LC.mv m hE xs p hx
  have hE1 : Hid (∀ k, B k → ¬ E1 k) := fun k hk => gr.free (lo k hk) (hE k hk)
  have loV : Hid (∀ k, B k → k < V.heap.size) := fun k hk => Nat.lt_of_lt_of_le (lo k hk) m.size
  have hYH := hidP hY
  clear cv hx hY eb hE lo
  refine (callsIn_wide (n := 5)).1 ?_
  refine callsIn_of_wp Tryz.func124 rfl trivial ?_ rfl
  simp only [Tryz.ntmps124, List.size_toArray, List.length_cons, List.length_nil, Nat.reduceAdd, Nat.reduceSub, Array.replicate_succ, Array.replicate_zero, List.push_toArray, List.append_toArray, List.nil_append, List.cons_append]
  gi_wp2
  gi_loopw [3] (fun i wr => ∃ (rest : List Rec) (r : Option Nat) (E2 : Nat → Prop), i = ptrV r ∧ rest.length ≤ xs.length ∧ Hid (LC wr B rest r) ∧ Hid (J rest E2 wr) ∧ Hid (Mv E1 V wr) ∧ Hid (Gr E1 V E2)) (fun i wr => chn wr xs.length i)
  case atStart => exact ⟨xs, p, E1, rfl, Nat.le_refl _, hxV, h0, Mv.refl _ _, Gr.refl _ _⟩
  case round =>
    obtain ⟨rest, r, E2, rfl, hl, hc, hj, hm, hg⟩ := hrel
    cases rest with
    | cons x rest =>
      obtain ⟨b, pr, rfl, hb, c0, c1, c2, c3, hr⟩ := hc.out
      obtain ⟨fn, tmps, assign, body, hy, hR⟩ := hYH.out x rest E2 wr hj.out
      dsimp only [encR, Rec.val] at hy
      have hch : Hid (chn wr xs.length (ptrV (some b)) = rest.length + 1) := hc.out.chn _ _ _ hl
      have hrH := hidP hr
      have hbH := hidP hb
      have c3H := hidP c3
      have hRH := hidP hR
      unfold ptrV
      simp only [Option.map_some]
      clear hr hb c3 hc hR
      gi_wp2
      refine (wide_round' hRH.out).mono ?_
      rintro e W3 ⟨m3, (⟨rfl, E3, g3, hj3⟩ | ⟨rfl, E3, g3, hj3⟩)⟩
      · have nB : ∀ k, B k → ¬ E2 k := fun k hk e => by
          rcases hg.out k e with s | s
          · exact hE1.out k hk s
          · have := loV.out k hk; omega
        have c3' := m3.cell (a := ⟨b, 5, none⟩) (nB b hbH.out) c3H.out
        have hr3 := hidP (LC.mv m3 nB _ _ hrH.out)
        have m3H := hidP m3
        have g3H := hidP g3
        have hj3H := hidP hj3
        clear m3 g3 hj3 c0 c1 c2 hy
        gi_wp2
        refine ⟨⟨rest, pr, E3, rfl, by simp at hl; omega, hr3, hj3H, hm.out.trans hg.out m3H.out, hg.out.trans hm.out.size g3H.out⟩, ?_⟩
        have h1 := hr3.out.chn _ _ xs.length (by simp at hl; omega)
        have h2 := hch.out
        show Qd.chn W3 xs.length (ptrV pr) < Qd.chn wr xs.length (ptrV (some b))
        omega
      · gi_wp2
        refine bodyPost_ret (results_none rfl _ _ _) rfl ?_
        exact ⟨⟨_, rfl⟩, hm.out.trans hg.out m3, .inr ⟨E3, hg.out.trans hm.out.size g3, hj3⟩⟩
    | nil =>
      have hr : r = none := hc.out
      subst hr
      unfold ptrV
      simp only [Option.map_none]
      gi_wp2
      go_end0
      exact ⟨⟨_, rfl⟩, hm.out, .inl ⟨E2, hg.out, hj.out⟩⟩
def nbk : Value → Option Nat
  | .slice (some a) _ _ => some a.block
  | _ => none
/-- A slice of records, nil or not. -/
def SV (w : World) (v : Value) (l : List Rec) : Prop := (v = .slice none 0 0 ∧ l = []) ∨ ∃ g o c, v = slv g o l.length c ∧ RS w g o c l
theorem SV.mv {F : Nat → Prop} {w V : World} {v : Value} {l : List Rec} (h : SV w v l) (m : Mv F w V) (hF : ∀ k, nbk v = some k → ¬ F k) : SV V v l := by
  rcases h with h | ⟨g, o, c, rfl, h⟩
  · exact .inl h
  · have hb := m.block g h.rm.lt (hF g rfl)
    have hc : ∀ j, V.cell? ⟨g, j, none⟩ = w.cell? ⟨g, j, none⟩ := fun j => World.cell?_of_block hb
    have hf : ∀ j, V.frozen? ⟨g, j, none⟩ = w.frozen? ⟨g, j, none⟩ := fun j => by unfold World.frozen?; rw [hb]
    exact .inr ⟨g, o, c, rfl, h.le, ⟨Nat.lt_of_lt_of_le h.rm.lt m.size, h.rm.mx, fun j hj => by rw [hc]; exact h.rm.so j hj, fun j hj => by rw [hf]; exact h.rm.fz j hj⟩, fun j u hj => (hc _).trans (h.ra j u hj)⟩
theorem SV.shape {w : World} {v : Value} {l : List Rec} (h : SV w v l) : ∃ p c, v = .slice p l.length c := by
  rcases h with ⟨rfl, rfl⟩ | ⟨g, o, c, rfl, _⟩
  · exact ⟨none, 0, rfl⟩
  · exact ⟨_, _, rfl⟩
theorem SV.lt {w : World} {v : Value} {l : List Rec} (h : SV w v l) {k : Nat} (hk : nbk v = some k) : k < w.heap.size := by
  rcases h with ⟨rfl, rfl⟩ | ⟨g, o, c, rfl, h⟩
  · cases hk
  · cases hk; exact h.rm.lt
theorem SV.append {w : World} {v : Value} {l : List Rec} (h : SV w v l) {g2 : Nat} {x : Rec} (hx : RA w g2 0 [x]) (hl : l.length ≤ 400000) (c2 : Nat) :
    ∃ v' w', (Builtin.append_ #[123, 123] 123 #[v, slv g2 0 1 c2]).run Tryz.prog w = .ok v' w' ∧ SV w' v' (l ++ [x]) ∧ Mv (fun k => nbk v = some k) w w' ∧ (nbk v' = nbk v ∨ ∃ k, nbk v' = some k ∧ w.heap.size ≤ k) := by
  rcases h with ⟨rfl, rfl⟩ | ⟨g, o, c, rfl, h⟩
  · obtain ⟨g', c', w', hrun, hg, hrs, hb⟩ := app_nil (c2 := c2) hx (by simp) (by simp) 123
    exact ⟨_, w', hrun, .inr ⟨g', 0, c', rfl, hrs⟩, Mv.below hb, .inr ⟨g', rfl, hg⟩⟩
  · by_cases hroom : l.length + 1 ≤ c
    · obtain ⟨V', hrun, hrs, hc⟩ := app_room h (c2 := c2) hx hroom 123
      exact ⟨_, V', hrun, .inr ⟨g, o, c, by rw [List.length_append], hrs⟩, hc.mv.mono (fun k _ s => by obtain ⟨j, e, _⟩ := s; subst e; rfl), .inl rfl⟩
    · obtain ⟨g', c', V', hrun, hg, hrs, hb⟩ := app_grow h (c2 := c2) hx (by simp; omega) (by omega) (by simp) 123
      exact ⟨_, V', hrun, .inr ⟨g', 0, c', by rw [List.length_append], hrs⟩, Mv.below hb, .inr ⟨g', rfl, hg⟩⟩
/-- How far AppendSeq has come. -/
def AI (l0 xs : List Rec) (v0 : Value) (sb : Nat) (w0 : World) (rest : List Rec) (E : Nat → Prop) (W : World) : Prop :=
  ∃ v done, done ++ rest = xs ∧ (∀ k, E k ↔ (k = sb ∨ nbk v = some k)) ∧ Cl sb v W ∧ SV W v (l0 ++ done) ∧ nbk v ≠ some sb ∧ (nbk v = nbk v0 ∨ ∃ k, nbk v = some k ∧ w0.heap.size ≤ k)
theorem AI.ter {l0 xs : List Rec} {v0 : Value} {sb B : Nat} {w0 : World} : Ter B (AI l0 xs v0 sb w0) :=
  ⟨fun s E W V h m => by
    obtain ⟨v, done, h1, h2, h3, h4, h5⟩ := h
    exact ⟨v, done, h1, h2, h3.mv m (fun f => f.1 ((h2 sb).2 (.inl rfl))), h4.mv m (fun k hk f => f.1 ((h2 k).2 (.inr hk))), h5⟩, fun s E W h k hk => by
    obtain ⟨v, done, h1, h2, h3, h4, h5⟩ := h
    rcases (h2 k).1 hk with rfl | hk
    · exact h3.lt
    · exact h4.lt hk⟩
def AX (_ : Code) (_ : Nat → Prop) (_ : World) : Prop := False
theorem AX.ter (B : Nat) : Ter B AX := ⟨fun _ _ _ _ h _ => h.elim, fun _ _ _ h => h.elim⟩
set_option maxRecDepth 100000 in
set_option maxHeartbeats 4000000 in
theorem appendseq_any (l0 xs : List Rec) (v0 : Value) (p : Option Nat) (bl : Nat) (B : Nat → Prop) (w : World) (h0 : SV w v0 l0) (cv : w.cell? ⟨bl, 0, none⟩ = some (ptrV p)) (eb : nbk v0 ≠ some bl) (hx : LC w B xs p) (hE : ∀ k, B k → nbk v0 ≠ some k) (lo : ∀ k, B k → k < w.heap.size) (hl : l0.length + xs.length ≤ 400000) :
    Calls Tryz.prog 123 #[v0, .func (.func 124) #[] #[.pointer (some ⟨bl, 0, none⟩)]] w fun e V => ∃ v, e = .returned v ∧ SV V v (l0 ++ xs) ∧ Mv (fun k => nbk v0 = some k) w V ∧ (nbk v = nbk v0 ∨ ∃ k, nbk v = some k ∧ w.heap.size ≤ k) := by
  obtain ⟨p0, c0, hv0⟩ := h0.shape
  obtain ⟨n0, hn0⟩ : ∃ n0, l0.length = n0 := ⟨_, rfl⟩
  rw [hn0] at hv0
  obtain ⟨n, hn⟩ : ∃ n, w.heap.size = n := ⟨_, rfl⟩
  obtain ⟨W0, hW0⟩ : ∃ W0, w.alloc (.cells #[v0] 123) = W0 := ⟨_, rfl⟩
  have mW : ∀ F, Mv F w W0 := fun F => by rw [← hW0]; exact Mv.alloc _ _ _
  have hs0 : W0.heap.size = n + 1 := by rw [← hW0]; simp [hn]
  have cl0 : Cl n v0 W0 := ⟨by rw [← hW0]; exact cell_at hn rfl, by rw [← hW0]; exact froz_new hn⟩
  have sv0 : SV W0 v0 l0 := h0.mv (mW fun _ => False) (fun _ _ h => h)
  have nv0 : nbk v0 ≠ some n := fun e => by have := h0.lt e; omega
  have hbl : bl < n := by rw [← hn]; exact cell_lt cv
  have row := hidP (all_row xs p bl B (fun k => k = n ∨ nbk v0 = some k) W0 ((mW fun _ => False).cell (a := ⟨bl, 0, none⟩) (fun h => h) cv) (by rintro (e | e); omega; exact eb e) (LC.mv (mW fun _ => False) (fun _ _ h => h) _ _ hx) (fun k hk => by rintro (e | e); (have := lo k hk; omega); exact hE k hk e) (fun k hk => by have := lo k hk; omega))
  have tI : Ter W0.heap.size (AI l0 xs v0 n w) := AI.ter
  have hI : Hid (AI l0 xs v0 n w xs (fun k => k = n ∨ nbk v0 = some k) W0) := ⟨v0, [], rfl, fun _ => Iff.rfl, cl0, by rw [List.append_nil]; exact sv0, nv0, .inl rfl⟩
  have hnH := hidP hn
  have mWH := hidP mW
  have hs0H := hidP hs0
  have hv0H := hidP hv0
  clear h0 cv eb hx hE lo cl0 sv0 mW hs0 hn0 hv0H
  subst hv0
  refine (callsIn_wide (n := 5)).1 ?_
  refine callsIn_of_wp_marks Tryz.func123 rfl trivial ?_ rfl
  simp only [Tryz.ntmps123, List.size_toArray, List.length_cons, List.length_nil, Nat.reduceAdd, Nat.reduceSub, Array.replicate_succ, Array.replicate_zero, List.push_toArray, List.append_toArray, List.nil_append, List.cons_append]
  gi_wp2_with (rw [hW0])
  refine loop_out (gf := 124) (lb := #[.pointer (some ⟨bl, 0, none⟩)]) rfl (enters_of Tryz.func124 (by kernel_rfl) rfl) row.out (fun _ => rfl) (AI l0 xs (.slice p0 n0 c0) n w) AX tI (AX.ter _) hI.out ?round ?done ?stop
  case round =>
    rintro l9 hl9 x rest E2 U hi hm hg hEl hrec
    have hltH : Hid (l9 < U.heap.size) := by obtain ⟨r, hr⟩ := hrec; exact (Array.getElem?_eq_some_iff.1 hr).1
    clear hrec
    simp only [encR, Rec.val]
    gi_wp2_with fail
    refine ⟨⟨Mv.alloc _ _ _, Below.heap_alloc _ _ _ hltH.out⟩, fun U2 tw => ?_⟩
    obtain ⟨hi2, hm2⟩ := tw.go tI hi (Mv.alloc _ _ _) hm (Nat.le_refl _) hl9 hEl
    have bx : ∀ j u, #[vc0 x.v, vc1 x.v, vc2 x.v, Value.int .i64 x.t, ptrV x.p][j]? = some u → U2.cell? ⟨U.heap.size, j, none⟩ = some u := fun j u hj => tw.mv.cell (a := ⟨U.heap.size, j, none⟩) (by have := hltH.out; show ¬ U.heap.size = l9; omega) (cell_at rfl hj)
    have x0 := (⟨bx 0 _ rfl, bx 1 _ rfl, bx 2 _ rfl⟩ : _ ∧ _ ∧ _)
    have x1 := bx 3 _ rfl
    have x2 := bx 4 _ rfl
    have hU2 : Hid (U2.heap.size = U.heap.size + 1) := by show _ = _; have := tw.size; simpa using this
    obtain ⟨v, done, e1, e2, e3, e4, e5, e6⟩ := hi2
    obtain ⟨A, hA⟩ : ∃ A, U2.alloc (.cells #[vc0 x.v, vc1 x.v, vc2 x.v, .int .i64 x.t, ptrV x.p] 131) = A := ⟨_, rfl⟩
    have mA : ∀ F, Mv F U2 A := fun F => by rw [← hA]; exact Mv.alloc _ _ _
    have svA := e4.mv (mA fun _ => False) (fun _ _ h => h)
    have raA : RA A U2.heap.size 0 [x] := by
      intro j u hj
      rw [Nat.zero_add, ← hA]
      refine cell_at rfl ?_
      match j, hj with
      | 0, hj => exact hj
      | 1, hj => exact hj
      | 2, hj => exact hj
      | 3, hj => exact hj
      | 4, hj => exact hj
      | j + 5, hj => simp [flat] at hj
    have hdl : done.length + rest.length + 1 = xs.length := by rw [← e1]; simp; omega
    obtain ⟨v', A2, hrun, sv', m2, at2⟩ := svA.append raA (by rw [List.length_append]; omega) 1
    obtain ⟨A3, hA3⟩ : ∃ A3, A2.setCell ⟨n, 0, none⟩ v' = A3 := ⟨_, rfl⟩
    have n2 : ¬ nbk v = some n := e5
    have cA2 := (e3.mv (mA fun _ => False) (fun h => h)).mv m2 n2
    have clA3 : Cl n v' A3 := by rw [← hA3]; exact cA2.set v'
    have mS : Mv (fun k => k = n) A2 A3 := by rw [← hA3]; exact Mv.set1 (E := fun k => k = n) rfl _
    have szA : A.heap.size = U2.heap.size + 1 := by rw [← hA]; simp
    have hnU : n < U2.heap.size := e3.lt
    have n3 : nbk v' ≠ some n := fun e => by
      rcases at2 with q | ⟨k, q, hk⟩
      · exact e5 (q ▸ e)
      · rw [e] at q; injection q with q; omega
    have fin : Hid (Mv E2 U2 A3 ∧ ∃ E', Gr E2 U2 E' ∧ AI l0 xs (.slice p0 n0 c0) n w rest E' A3) := by
      refine ⟨(((mA E2).trans' (m2.mono fun k _ hk => (e2 k).2 (.inr hk))).trans' (mS.mono fun k _ hk => (e2 k).2 (.inl hk))), fun k => k = n ∨ nbk v' = some k, fun k hk => ?_, v', done ++ [x], by rw [List.append_assoc]; exact e1, fun _ => Iff.rfl, clA3, ?_, n3, ?_⟩
      · rcases hk with hk | hk
        · exact .inl ((e2 k).2 (.inl hk))
        · rcases at2 with q | ⟨k', q, hk'⟩
          · exact .inl ((e2 k).2 (.inr (by rw [← q]; exact hk)))
          · rw [hk] at q; injection q with q; exact .inr (by omega)
      · rw [← List.append_assoc]
        exact sv'.mv mS (fun k hk e => n3 (e ▸ hk))
      · rcases at2 with q | ⟨k', q, hk'⟩
        · rcases e6 with z | ⟨k, z, hk⟩
          · exact .inl (q.trans z)
          · exact .inr ⟨k, q.trans z, hk⟩
        · exact .inr ⟨k', q, by have := hm2.size; have := hnH.out; omega⟩
    obtain ⟨pv, cvv, rfl⟩ := e4.shape
    obtain ⟨pv', cv', rfl⟩ := sv'.shape
    have ec := e3.c
    have ef := cA2.f
    have ec2 := cA2.c
    obtain ⟨nd, hnd⟩ : ∃ nd, (l0 ++ done).length = nd := ⟨_, rfl⟩
    obtain ⟨nd', hnd'⟩ : ∃ nd', (l0 ++ done ++ [x]).length = nd' := ⟨_, rfl⟩
    rw [hnd] at hrun ec ec2
    rw [hnd'] at hrun hA3
    clear sv' m2 at2 e1 e2 e3 e4 e5 e6 n2 clA3 mS n3 svA raA mA hm2 hi hm tw hdl cA2 hnd hnd'
    gi_wp2_with (first | rw [hA] | rw [hA3] | (gi_at_builtin; refine wpListIn_append_run rfl _ _ 123 rfl _ _ _ _ rfl rfl hrun ?_))
    exact fin.out
  case done =>
    rintro D E2 U hD hK hnD hm hg ⟨v, done, e1, e2, e3, e4, e5, e6⟩
    rw [List.append_nil] at e1
    subst e1
    have nvD : ¬ nbk v = some D := fun e => hnD ((e2 D).2 (.inr e))
    have mP : Mv (fun j => j = D) U (U.putObj D (.deferred none)) := Mv.put (E := fun j => j = D) rfl _
    have fin : Hid (∃ v', Ending.returned v = .returned v' ∧ SV (U.putObj D (.deferred none)) v' (l0 ++ done) ∧ Mv (fun k => nbk (.slice p0 n0 c0) = some k) w (U.putObj D (.deferred none)) ∧ (nbk v' = nbk (.slice p0 n0 c0) ∨ ∃ k, nbk v' = some k ∧ w.heap.size ≤ k)) := by
      have s0 := hs0H.out
      refine ⟨v, rfl, e4.mv mP (fun k hk e => nvD (e ▸ hk)), ?_, e6⟩
      refine ((mWH.out (fun k => nbk (.slice p0 n0 c0) = some k)).trans (E' := fun k => k = n ∨ nbk (.slice p0 n0 c0) = some k) (fun k hk => ?_) hm).put_new (by omega) _
      rcases hk with hk | hk
      · exact .inr (by omega)
      · exact .inl hk
    obtain ⟨pv, cvv, rfl⟩ := e4.shape
    have ec := e3.c
    obtain ⟨nd, hnd⟩ : ∃ nd, (l0 ++ done).length = nd := ⟨_, rfl⟩
    rw [hnd] at fin ec
    clear hnd
    have hKH := hidP hK
    clear e2 e3 e4 e5 e6 mP nvD hK hm hg hI row
    gi_wp2_with fail
    refine ⟨by simp, .inl ⟨_, _, rfl, run_takeDeferred hKH.out, ?_⟩⟩
    refine ⟨_, by simp [results, Tryz.results123, go_sem]; rfl, ?_⟩
    exact fin.out
  case stop =>
    intro D c E2 U hD hK hnD hm hg h
    exact h.elim
set_option maxRecDepth 100000 in
set_option maxHeartbeats 1000000 in
theorem collect_any (xs : List Rec) (p : Option Nat) (bl : Nat) (B : Nat → Prop) (w : World) (cv : w.cell? ⟨bl, 0, none⟩ = some (ptrV p)) (hx : LC w B xs p) (lo : ∀ k, B k → k < w.heap.size) (hl : xs.length ≤ 400000) :
    Calls Tryz.prog 111 #[.func (.func 124) #[] #[.pointer (some ⟨bl, 0, none⟩)]] w fun e V => ∃ v, e = .returned v ∧ SV V v xs ∧ Below w.heap.size w V ∧ (∀ k, nbk v = some k → w.heap.size ≤ k) := by
  have hC : Hid (Calls Tryz.prog 123 #[.slice none 0 0, .func (.func 124) #[] #[.pointer (some ⟨bl, 0, none⟩)]] w fun e V => ∃ v, e = .returned v ∧ SV V v xs ∧ Below w.heap.size w V ∧ (∀ k, nbk v = some k → w.heap.size ≤ k)) := by
    refine (appendseq_any [] xs (.slice none 0 0) p bl B w (.inl ⟨rfl, rfl⟩) cv (fun e => by cases e) hx (fun k _ e => by cases e) lo (by simpa using hl)).mono ?_
    rintro e V ⟨v, rfl, h1, h2, h3⟩
    refine ⟨v, rfl, h1, h2.toBelow (Nat.le_refl _) (fun k _ e => by cases e), fun k hk => ?_⟩
    rcases h3 with q | ⟨k', q, hk'⟩
    · rw [hk] at q; cases q
    · rw [hk] at q; injection q with q; omega
  clear cv hx lo
  go_enter Tryz.func111, Tryz.ntmps111
  go_wp2_with fail
  refine hC.out.mono ?_
  rintro e V ⟨v, rfl, hv⟩
  have hvH := hidP hv
  clear hv
  go_wp2_with fail
  go_ret
  exact ⟨v, rfl, hvH.out⟩
set_option maxRecDepth 100000 in
set_option maxHeartbeats 1000000 in
theorem trees_any (xs : List Rec) (p : Option Nat) (B : Nat → Prop) (w : World) (hx : LC w B xs p) (lo : ∀ k, B k → k < w.heap.size) (hl : xs.length ≤ 400000) :
    Calls Tryz.prog 91 #[ptrV p] w fun e V => ∃ v, e = .returned v ∧ SV V v xs ∧ Below w.heap.size w V ∧ (∀ k, nbk v = some k → w.heap.size ≤ k) := by
  have hA : Hid (Calls Tryz.prog 112 #[ptrV p] w fun e V => e = .returned (.func (.func 124) #[] #[.pointer (some ⟨w.heap.size, 0, none⟩)]) ∧ V = w.alloc (.cells #[ptrV p] 129)) := by
    show Calls _ _ _ _ _
    clear hx lo hl
    go_enter Tryz.func112, Tryz.ntmps112
    go_wp2_with fail
    go_ret
    exact ⟨rfl, rfl⟩
  have b0 : Below w.heap.size w (w.alloc (.cells #[ptrV p] 129)) := (Below.refl _ _).alloc (Nat.le_refl _) _
  have hC := hidP (collect_any xs p w.heap.size B (w.alloc (.cells #[ptrV p] 129)) (cell_at rfl rfl) (LC.mv (Mv.alloc (fun _ => False) _ _) (fun _ _ h => h) _ _ hx) (fun k hk => by have := lo k hk; simp; omega) hl)
  have b0H := hidP b0
  clear hx lo b0
  obtain ⟨W0, hW0⟩ : ∃ W0, w.alloc (.cells #[ptrV p] 129) = W0 := ⟨_, rfl⟩
  rw [hW0] at hC b0H hA
  go_enter Tryz.func91, Tryz.ntmps91
  go_wp2_with fail
  refine hA.out.mono ?_
  rintro e V ⟨rfl, rfl⟩
  clear hA
  go_wp2_with fail
  refine hC.out.mono ?_
  rintro e V2 ⟨v, rfl, h1, h2, h3⟩
  have fin := hidP (⟨v, rfl, h1, b0H.out.trans (h2.mono b0H.out.size), fun k hk => Nat.le_trans b0H.out.size (h3 k hk)⟩ : ∃ v', Ending.returned v = .returned v' ∧ SV V2 v' xs ∧ Below w.heap.size w V2 ∧ (∀ k, nbk v' = some k → w.heap.size ≤ k))
  clear h1 h2 h3 hC
  go_wp2_with fail
  go_ret
  exact fin.out
end Go.Proofs.YtjcdjkfnmobhkaaGreat.Qd
