import Derived.Test.YtdcidlgmnnaahaaGreatBbf
import Derived.Deep.QuietTactic
import Derived.BigQuiet
import Derived.OpenShut
import Derived.SliceStrings
import Derived.SizedLaws
import Derived.Deep.Slices
/- LoopPlays: the document's Elapse and Forget. -/
namespace Go.Proofs.YtdcidlgmnnaahaaGreat
open Go.RowKit Go.Shelf Go.Lib
attribute [local go_sem] Oper.semAt_some
def dueT (now : Int) (T : List Du) : List Du := T.filter fun d => decide (d.t ≤ now)
def restT (now : Int) (T : List Du) : List Du := T.filter fun d => !decide (d.t ≤ now)
set_option maxRecDepth 100000 in
set_option maxHeartbeats 4000000 in
theorem relapse_any {W : World} {rb : Nat} {E : Nat → Prop} {L : List Wt} {T : List Du} (h : Rl W rb E L T) (hT : Ts T) (hl : T.length ≤ 1000) (now : Int) :
    Calls Tryz.prog 14 #[.pointer (some ⟨rb, 0, none⟩), .int .i64 now] W fun e V => (∃ p n c, e = .returned (.slice p n c) ∧ Md.SV V (.slice p n c) (dueT now T)) ∧ Rgo W rb E L (restT now T) V := by
  have hRH := hidP h
  have hTH := hidP hT
  obtain ⟨ve, vt, c0, c1, f0, f1, sl, st, n0, n1, n2, hE⟩ := h
  obtain ⟨pv, cv, rfl⟩ := st.shape
  obtain ⟨m, hm⟩ : ∃ m, T.length = m := ⟨_, rfl⟩
  rw [hm] at st
  have hstH := hidP st
  have f1H := hidP f1
  rw [hm] at c1 hl
  have hmI : (m : Int) ≤ 1000 := by omega
  have hmH := hidP hm
  have c1H := hidP c1
  have exit : Hid (∀ j, j ≤ m → (∀ d ∈ T.take j, d.t ≤ now) → (∀ d, T[j]? = some d → ¬ d.t ≤ now) →
      ∃ pt nt ct, (∀ W, (Instr.slice 28 (.slice pv m cv) none (some (.int .i64 j)) none).run Tryz.prog W = .ok (.slice pt nt ct) W) ∧
      ∃ p1 k1 c1 W1, (Builtin.append_ #[28, 28] 28 #[.slice none 0 0, .slice pt nt ct]).run Tryz.prog W = .ok (.slice p1 k1 c1) W1 ∧ W1.cell? ⟨rb, 1, none⟩ = some (.slice pv m cv) ∧
      ∃ pd nd cd, (∀ W, (Instr.slice 28 (.slice pv m cv) (some (.int .i64 j)) none none).run Tryz.prog W = .ok (.slice pd nd cd) W) ∧
      ∃ p2 k2 c2 W2, (Builtin.append_ #[28, 28] 28 #[.slice none 0 0, .slice pd nd cd]).run Tryz.prog W1 = .ok (.slice p2 k2 c2) W2 ∧ W2.cell? ⟨rb, 1, none⟩ = some (.slice pv m cv) ∧ W2.frozen? ⟨rb, 1, none⟩ = false ∧
      ∀ V, W2.setCell ⟨rb, 1, none⟩ (.slice p2 k2 c2) = V → Md.SV V (.slice p1 k1 c1) (dueT now T) ∧ Rgo W rb E L (restT now T) V) := fun j hj h1 h2 => by
    obtain ⟨e1, e2⟩ := due_cut hTH.out h1 h2
    obtain ⟨tv, htv, svt⟩ := Md.slice_hi hstH.out (k := j) (by rw [hmH.out]; exact hj)
    obtain ⟨pt, ct, rfl⟩ := svt.shape
    have lt1 : (T.take j).length ≤ 1000 := by rw [List.length_take]; omega
    have lt2 : (T.drop j).length ≤ 1000 := by rw [List.length_drop]; have := hmH.out; omega
    obtain ⟨v1, W1, hr1, sv1, mv1, at1⟩ := Md.SV.cat (v := .slice none 0 0) (l := []) (.inl ⟨rfl, rfl⟩) svt (by simp) (by omega)
    rw [List.nil_append] at sv1
    obtain ⟨p1, c1', rfl⟩ := sv1.shape
    have nb1 : ∀ b, Qd.nbk (.slice p1 (T.take j).length c1') = some b → W.heap.size ≤ b := fun b e => by
      rcases at1 with z | ⟨k', z, hk'⟩
      · rw [e] at z; cases z
      · rw [e] at z; injection z with z; omega
    have b1 : Below W.heap.size W W1 := mv1.toBelow (Nat.le_refl _) (fun b _ e => by cases e)
    obtain ⟨dv, hdv, svd, nbd⟩ := Md.slice_lo hstH.out (k := j) (by rw [hmH.out]; exact hj)
    obtain ⟨pd, cd, rfl⟩ := svd.shape
    have svd1 := svd.mv (F := fun _ => False) (Mv.below b1) (fun _ _ h => h)
    obtain ⟨v2, W2, hr2, sv2, mv2, at2⟩ := Md.SV.cat (v := .slice none 0 0) (l := []) (.inl ⟨rfl, rfl⟩) svd1 (by simp) (by omega)
    rw [List.nil_append] at sv2
    obtain ⟨p2, c2, rfl⟩ := sv2.shape
    have b2' : Below W1.heap.size W1 W2 := mv2.toBelow (Nat.le_refl _) (fun b _ e => by cases e)
    have b2 : Below W.heap.size W W2 := b1.trans (b2'.mono b1.size)
    have nb2 : ∀ b, Qd.nbk (.slice p2 (T.drop j).length c2) = some b → W.heap.size ≤ b := fun b e => by
      rcases at2 with z | ⟨k', z, hk'⟩
      · rw [e] at z; cases z
      · rw [e] at z; injection z with z; have := b1.size; omega
    have lr := cell_lt c1H.out
    refine ⟨pt, _, ct, htv, p1, _, c1', W1, hr1, bcell b1 lr c1H.out, pd, _, cd, hdv, p2, _, c2, W2, hr2, bcell b2 lr c1H.out, (bfroz b2 lr).trans f1H.out, fun V hV => ?_⟩
    refine ⟨?_, ?_⟩
    · have cvx := Cv.one W2 rb 1 (.slice p2 (T.drop j).length c2)
      rw [hV] at cvx
      have mV : Mv (fun k => k = rb) W2 V := cvx.mv.mono fun k _ s => by obtain ⟨j, s, _⟩ := s; exact s
      unfold dueT
      rw [e1]
      exact (sv1.mv (F := fun _ => False) (Mv.below b2') (fun _ _ h => h)).mv mV (fun k hk e => by have := nb1 k hk; have e' : k = rb := e; simp only at lr; omega)
    · unfold restT
      rw [e2]
      exact Rl.setT hRH.out b2 sv2 nb2 hV
  clear hT c0 f0 f1 sl st n0 n1 n2 hE hm
  go_enter Tryz.func14, Tryz.ntmps14
  go_wp2_with fail
  go_loop [5] (fun s => ∃ j : Nat, j ≤ m ∧ s = .int .i64 j ∧ Hid (∀ d ∈ T.take j, d.t ≤ now)) (fun s => m - (intOf s).toNat)
  case atStart => exact ⟨0, Nat.zero_le _, rfl, hidP (fun d hd => by simp at hd)⟩
  case round =>
    obtain ⟨j, hj, rfl, hI⟩ := hrel
    by_cases hlt : j < m
    · obtain ⟨x, hx⟩ : ∃ x, T[j]? = some x := ⟨_, List.getElem?_eq_getElem (by have := hmH.out; omega)⟩
      obtain ⟨g, o, cap, hgv, rs⟩ := hstH.out.resolve_left (fun z => by rw [z.2] at hx; cases hx)
      have hgv' := hgv
      injection hgv' with e1 e2 e3
      subst e1
      subst e3
      clear e2 hgv
      obtain ⟨_, _, r2⟩ := rs.ra.at hx
      obtain ⟨xt, hxt⟩ : ∃ z, x.t = z := ⟨_, rfl⟩
      rw [hxt] at r2
      have hjI : (j : Int) < (m : Int) := by omega
      have hjc : j < cv := by have := rs.le; have := hmH.out; omega
      by_cases hd : xt ≤ now
      · have nx : Hid (∀ d ∈ T.take (j + 1), d.t ≤ now) := fun d hd' => by
          rw [take_succ_get hx] at hd'
          rcases List.mem_append.1 hd' with z | z
          · exact hI.out d z
          · have : d = x := by simpa using z
            rw [this, hxt]; exact hd
        clear rs hx hxt hI exit
        go_wp2_with fail
        exact ⟨⟨j + 1, by omega, by go_num, nx⟩, by simp [intOf]; omega⟩
      · have hdd : decide (xt ≤ now) = false := decide_eq_false hd
        obtain ⟨pt, nt, ct, htv, p1, k1, c1', W1, hr1, w1, pd, nd, cd, hdv, p2, k2, c2, W2, hr2, w2, w2f, hfin⟩ := exit.out j hj hI.out (fun d hd' => by rw [hx] at hd'; injection hd' with e; rw [← e, hxt]; omega)
        obtain ⟨V, hV⟩ : ∃ V, W2.setCell ⟨rb, 1, none⟩ (.slice p2 k2 c2) = V := ⟨_, rfl⟩
        have fin := hidP (hfin V hV)
        have htv' : ∀ W, (Instr.slice 28 (.slice (some ⟨g, o, none⟩) m cv) none (some (.int .i64 j)) none).run Tryz.prog W = .ok (.slice pt nt ct) W := fun W => htv W
        have hdv' : ∀ W, (Instr.slice 28 (.slice (some ⟨g, o, none⟩) m cv) (some (.int .i64 j)) none none).run Tryz.prog W = .ok (.slice pd nd cd) W := fun W => hdv W
        clear rs hx hxt hI exit htv hdv hfin
        go_upto_region 5 with (at_builtin; refine wpList_append_run rfl _ _ 28 rfl _ _ _ _ rfl rfl hr1 ?_)
        go_wp2_with (first | rw [hV] | (at_builtin; refine wpList_append_run rfl _ _ 28 rfl _ _ _ _ rfl rfl hr2 ?_))
        go_ret
        exact ⟨⟨_, _, _, rfl, fin.out.1⟩, fin.out.2⟩
    · have hjm : j = m := by omega
      have hjI : ¬ (j : Int) < (m : Int) := by omega
      have hjd : decide ((j : Int) < (m : Int)) = false := decide_eq_false hjI
      obtain ⟨pt, nt, ct, htv, p1, k1, c1', W1, hr1, w1, pd, nd, cd, hdv, p2, k2, c2, W2, hr2, w2, w2f, hfin⟩ := exit.out j hj hI.out (fun d hd' => by have := (List.getElem?_eq_some_iff.1 hd').1; have := hmH.out; omega)
      obtain ⟨V, hV⟩ : ∃ V, W2.setCell ⟨rb, 1, none⟩ (.slice p2 k2 c2) = V := ⟨_, rfl⟩
      have fin := hidP (hfin V hV)
      have hjmH := hidP hjm
      clear hI exit hfin hjm hlt
      go_upto_region 5 with (at_builtin; refine wpList_append_run rfl _ _ 28 rfl _ _ _ _ rfl rfl hr1 ?_)
      go_wp2_with (first | rw [hV] | (at_builtin; refine wpList_append_run rfl _ _ 28 rfl _ _ _ _ rfl rfl hr2 ?_))
      go_ret
      exact ⟨⟨_, _, _, rfl, fin.out.1⟩, fin.out.2⟩
/-- One event behind a row. -/
theorem Me.SV.push {W : World} {v : Value} {l : List Wt} (h : Me.SV W v l) (x : Wt) (hl : l.length ≤ 300000) {B : Nat} (hB : W.heap.size = B) :
    ∃ v' W', (Builtin.append_ #[27, 27] 27 #[v, .slice (some ⟨B, 0, none⟩) 1 1]).run Tryz.prog (W.alloc (.cells #[.int .i64 x.k, .int .i64 x.p, .int .i64 x.s, .string x.u, .string x.x] 32)) = .ok v' W' ∧ Me.SV W' v' (l ++ [x]) ∧ Mv (fun k => Qd.nbk v = some k) W W' ∧ (Qd.nbk v' = Qd.nbk v ∨ ∃ k, Qd.nbk v' = some k ∧ W.heap.size ≤ k) := by
  subst hB
  obtain ⟨A, hA⟩ : ∃ A, W.alloc (.cells #[.int .i64 x.k, .int .i64 x.p, .int .i64 x.s, .string x.u, .string x.x] 32) = A := ⟨_, rfl⟩
  have bA : Below W.heap.size W A := by rw [← hA]; exact (Below.refl _ _).alloc (Nat.le_refl _) _
  have hx : Me.RA A W.heap.size 0 [x] := fun j z hj => by
    rw [Nat.zero_add, ← hA]
    refine cell_at rfl ?_
    match j, hj with
    | 0, hj => exact hj
    | 1, hj => exact hj
    | 2, hj => exact hj
    | 3, hj => exact hj
    | 4, hj => exact hj
    | j + 5, hj => simp [Me.flat] at hj
  obtain ⟨v2, W2, hr2, sv2, mv2, at2⟩ := (h.mv (F := fun _ => False) (Mv.below bA) (fun _ _ h => h)).append hx (by omega) 1
  rw [hA]
  refine ⟨v2, W2, hr2, sv2, (Mv.below bA).trans' mv2, at2.imp id ?_⟩
  rintro ⟨k, e, hk⟩
  exact ⟨k, e, Nat.le_trans bA.size hk⟩
/-- Both take the places of what was there. -/
theorem Rl.setB {W0 W V : World} {rb : Nat} {E : Nat → Prop} {L L' : List Wt} {T T' : List Du} (h : Rl W0 rb E L T) (b0 : Below W0.heap.size W0 W) {v u : Value} (sv : Md.SV W v T') (su : Me.SV W u L') (hv : ∀ j, Qd.nbk v = some j → W0.heap.size ≤ j) (hu : ∀ j, Qd.nbk u = some j → W0.heap.size ≤ j) (hd : ∀ j, Qd.nbk u = some j → Qd.nbk v ≠ some j) (hV : (W.setCell ⟨rb, 1, none⟩ v).setCell ⟨rb, 0, none⟩ u = V) : Rgo W0 rb E L' T' V := by
  obtain ⟨ve, vt, c0, c1, f0, f1, sl, st, n0, n1, n2, hE⟩ := h
  have lr := cell_lt c0
  simp only at lr
  have lrW : rb < W.heap.size := Nat.lt_of_lt_of_le lr b0.size
  have k1 := Cv.one W rb 1 v
  obtain ⟨V1, hV1⟩ : ∃ V1, W.setCell ⟨rb, 1, none⟩ v = V1 := ⟨_, rfl⟩
  rw [hV1] at k1 hV
  have k0 := Cv.one V1 rb 0 u
  rw [hV] at k0
  have m1 : Mv (fun k => k = rb) W V1 := k1.mv.mono fun k _ s => by obtain ⟨j, s, _⟩ := s; exact s
  have m0 : Mv (fun k => k = rb) V1 V := k0.mv.mono fun k _ s => by obtain ⟨j, s, _⟩ := s; exact s
  have mV : Mv (fun k => k = rb) W V := m1.trans' m0
  have m2 : Mv (fun k => k = rb) W0 V := (Mv.below b0).trans' mV
  have nV : Qd.nbk v ≠ some rb := fun e => by have := hv rb e; omega
  have nU : Qd.nbk u ≠ some rb := fun e => by have := hu rb e; omega
  have d1 : V1.cell? ⟨rb, 1, none⟩ = some v := by rw [← hV1]; exact World.cell?_setCell_same _ _ _ (bcell b0 lr c1)
  have d0 : V1.cell? ⟨rb, 0, none⟩ = some ve := k1.cell (fun s => by have := s.2; omega) (bcell b0 lr c0)
  have lr1 : rb < V1.heap.size := Nat.lt_of_lt_of_le lrW m1.size
  refine ⟨fun k => k = rb ∨ Qd.nbk u = some k ∨ Qd.nbk v = some k, ⟨u, v, by rw [← hV]; exact World.cell?_setCell_same _ _ _ d0, k0.cell (fun s => by have := s.2; omega) d1, (k0.fr rb 0 lr1).trans ((k1.fr rb 0 lrW).trans ((bfroz b0 lr).trans f0)), (k0.fr rb 1 lr1).trans ((k1.fr rb 1 lrW).trans ((bfroz b0 lr).trans f1)), su.mv mV (fun k hk e => nU (by have e' : k = rb := e; rw [← e']; exact hk)), sv.mv mV (fun k hk e => nV (by have e' : k = rb := e; rw [← e']; exact hk)), nU, nV, hd, fun k => Iff.rfl⟩, m2.mono fun k _ e => (hE k).2 (.inl e), fun k hk => ?_⟩
  rcases hk with e | e | e
  · exact .inl ((hE k).2 (.inl e))
  · exact .inr (hu k e)
  · exact .inr (hv k e)
end Go.Proofs.YtdcidlgmnnaahaaGreat
/- LoopPlays: the document's Forget. -/
namespace Go.Proofs.YtdcidlgmnnaahaaGreat
open Go.RowKit Go.Shelf Go.Lib
attribute [local go_sem] Oper.semAt_some
theorem goneT_app (u : ByteArray) (A B : List Du) : goneT u (A ++ B) = goneT u A ++ goneT u B := List.filter_append ..
theorem goneL_app (u : ByteArray) (A B : List Wt) : goneL u (A ++ B) = goneL u A ++ goneL u B := List.filter_append ..
/-- Timers that stay, so far. -/
def FT (W0 : World) (u : ByteArray) (A : List Du) (v : Value) (W : World) : Prop := Md.SV W v (goneT u A) ∧ Below W0.heap.size W0 W ∧ ∀ j, Qd.nbk v = some j → W0.heap.size ≤ j
/-- Events that stay, so far. -/
def FE (W0 : World) (u : ByteArray) (A : List Wt) (v : Value) (W : World) : Prop := Me.SV W v (goneL u A) ∧ Below W0.heap.size W0 W ∧ ∀ j, Qd.nbk v = some j → W0.heap.size ≤ j
theorem FT.grow {W0 W : World} {u : ByteArray} {A : List Du} {v : Value} (h : FT W0 u A v W) (hA : A.length ≤ 2000) (d : Du) (hd : ¬ d.u = u) {B : Nat} (hB : W.heap.size = B) :
    ∃ p n c W', (Builtin.append_ #[28, 28] 28 #[v, .slice (some ⟨B, 0, none⟩) 1 1]).run Tryz.prog (W.alloc (.cells #[.string d.u, .string d.w, .int .i64 d.t] 68)) = .ok (.slice p n c) W' ∧ FT W0 u (A ++ [d]) (.slice p n c) W' := by
  obtain ⟨h3, h4, h5⟩ := h
  have hl : (goneT u A).length ≤ 2000 := Nat.le_trans (List.length_filter_le _ _) hA
  obtain ⟨v', W', hr, sv, mv, at2⟩ := h3.push d (by omega) hB
  obtain ⟨p, c, rfl⟩ := sv.shape
  have e : goneT u A ++ [d] = goneT u (A ++ [d]) := by rw [goneT_app]; simp [goneT, hd]
  refine ⟨p, _, c, W', hr, e ▸ sv, h4.trans (mv.toBelow h4.size fun j hj e => by have := h5 j e; omega), fun j e => ?_⟩
  rcases at2 with z | ⟨j', z, hj⟩
  · exact h5 j (z ▸ e)
  · rw [e] at z; injection z with z; have := h4.size; omega
theorem FE.grow {W0 W : World} {u : ByteArray} {A : List Wt} {v : Value} (h : FE W0 u A v W) (hA : A.length ≤ 2000) (d : Wt) (hd : ¬ d.u = u) {B : Nat} (hB : W.heap.size = B) :
    ∃ p n c W', (Builtin.append_ #[27, 27] 27 #[v, .slice (some ⟨B, 0, none⟩) 1 1]).run Tryz.prog (W.alloc (.cells #[.int .i64 d.k, .int .i64 d.p, .int .i64 d.s, .string d.u, .string d.x] 32)) = .ok (.slice p n c) W' ∧ FE W0 u (A ++ [d]) (.slice p n c) W' := by
  obtain ⟨h3, h4, h5⟩ := h
  have hl : (goneL u A).length ≤ 2000 := Nat.le_trans (List.length_filter_le _ _) hA
  obtain ⟨v', W', hr, sv, mv, at2⟩ := h3.push d (by omega) hB
  obtain ⟨p, c, rfl⟩ := sv.shape
  have e : goneL u A ++ [d] = goneL u (A ++ [d]) := by rw [goneL_app]; simp [goneL, hd]
  refine ⟨p, _, c, W', hr, e ▸ sv, h4.trans (mv.toBelow h4.size fun j hj e => by have := h5 j e; omega), fun j e => ?_⟩
  rcases at2 with z | ⟨j', z, hj⟩
  · exact h5 j (z ▸ e)
  · rw [e] at z; injection z with z; have := h4.size; omega
set_option maxRecDepth 100000 in
set_option maxHeartbeats 8000000 in
theorem rforget_any {W : World} {rb : Nat} {E : Nat → Prop} {L : List Wt} {T : List Du} (h : Rl W rb E L T) (hl : T.length ≤ 1000) (hl2 : L.length ≤ 1000) (u : ByteArray) :
    Calls Tryz.prog 16 #[.pointer (some ⟨rb, 0, none⟩), .string u] W fun e V => e = .returned (.int .i64 (((T.length : Int) - (goneT u T).length) + ((L.length : Int) - (goneL u L).length))) ∧ Rgo W rb E (goneL u L) (goneT u T) V := by
  have hRH := hidP h
  obtain ⟨ve, vt, c0, c1, f0, f1, sl, st, n0, n1, n2, hE⟩ := h
  obtain ⟨pv, cv, rfl⟩ := st.shape
  obtain ⟨pe, ce, rfl⟩ := sl.shape
  obtain ⟨m, hm⟩ : ∃ m, T.length = m := ⟨_, rfl⟩
  obtain ⟨q, hq⟩ : ∃ q, L.length = q := ⟨_, rfl⟩
  have hstH := hidP st
  have hslH := hidP sl
  rw [hm] at c1 hl
  rw [hq] at c0 hl2
  have hmI : (m : Int) ≤ 1000 := by omega
  have hqI : (q : Int) ≤ 1000 := by omega
  have hmH := hidP hm
  have hqH := hidP hq
  obtain ⟨S, hS⟩ : ∃ S, (m : Int) + (q : Int) = S := ⟨_, rfl⟩
  have hwS : IntKind.i64.wrap ((m : Int) + (q : Int)) = S := by rw [IntKind.wrap_i64]; omega
  have hSH := hidP hS
  have c0N : ∀ nq, (W.drewN nq).cell? ⟨rb, 0, none⟩ = some (.slice pe q ce) := fun nq => c0
  have c1N : ∀ nq, (W.drewN nq).cell? ⟨rb, 1, none⟩ = some (.slice pv m cv) := fun nq => c1
  have bN0 : Hid (∀ nq, Below W.heap.size W (W.drewN nq)) := fun nq => ⟨rfl, rfl, rfl, Nat.le_refl _, fun _ _ => rfl⟩
  have ffH : Hid (W.frozen? ⟨rb, 0, none⟩ = false ∧ W.frozen? ⟨rb, 1, none⟩ = false) := ⟨f0, f1⟩
  have ccH : Hid (W.cell? ⟨rb, 0, none⟩ = some (.slice pe q ce) ∧ W.cell? ⟨rb, 1, none⟩ = some (.slice pv m cv)) := ⟨c0, c1⟩
  clear f0 f1 st sl n0 n1 n2 hE hm hq hS
  go_enter Tryz.func16, Tryz.ntmps16
  go_wp2_with fail
  go_quiet (fail)
  obtain ⟨Wn, hWn⟩ : ∃ Wn, W.drewN nq = Wn := ⟨_, rfl⟩
  have bn : Hid (Below W.heap.size W Wn) := by rw [← hWn]; exact bN0.out nq
  rw [hWn]
  clear hWn c0N c1N bN0 c0 c1 hwS
  have hF0 : Hid (FT Wn u (T.take 0) (.slice none 0 0) Wn) := ⟨.inl ⟨rfl, by simp [goneT]⟩, Below.refl _ _, fun j e => by cases e⟩
  go_wp2_with fail
  go_loopw [6, 7] (fun o i wr => ∃ (j : Nat) (p : Option Addr) (n c : Nat), j ≤ m ∧ i = .int .i64 j ∧ o = .slice p n c ∧ Hid (FT Wn u (T.take j) (.slice p n c) wr)) (fun _ i _ => m - (intOf i).toNat)
  case atStart => exact ⟨0, none, 0, 0, Nat.zero_le _, rfl, rfl, hF0⟩
  case round =>
    obtain ⟨j, p, n, c, hj, rfl, rfl, hO⟩ := hrel
    clear hF0
    have bw : Below W.heap.size W wr := bn.out.trans (hO.out.2.1.mono bn.out.size)
    have k1 : wr.cell? ⟨rb, 1, none⟩ = some (.slice pv m cv) := bcell bw (cell_lt ccH.out.2) ccH.out.2
    by_cases hlt : j < m
    · obtain ⟨x, hx⟩ : ∃ x, T[j]? = some x := ⟨_, List.getElem?_eq_getElem (by have := hmH.out; omega)⟩
      have stw := hstH.out.mv (F := fun _ => False) (Mv.below bw) (fun _ _ f => f)
      obtain ⟨g, o, cap, hgv, rs⟩ := stw.resolve_left (fun z => by rw [z.2] at hx; cases hx)
      injection hgv with e1 e2 e3
      subst e1
      subst e3
      clear e2
      obtain ⟨r0, r1, r2⟩ := rs.ra.at hx
      have htl : Hid ((T.take j).length ≤ 1000) := by
        have := hmH.out
        show _ ≤ _
        rw [List.length_take]; omega
      obtain ⟨B, hB⟩ : ∃ B, wr.heap.size = B := ⟨_, rfl⟩
      have htk : Hid (T.take (j + 1) = T.take j ++ [x]) := take_succ_get hx
      have hg : Hid (¬ x.u = u → _) := fun hd => hO.out.grow (by have := htl.out; omega) x hd hB
      have hjI : (j : Int) < (m : Int) := by omega
      have hjc : j < cv := by have := rs.le; have := hmH.out; omega
      have hxH := hidP (rfl : x.u = x.u)
      by_cases hu : x.u = u
      · have hub : (x.u.toList == u.toList) = true := by rw [beqT]; simpa using hu
        have fin : Hid (FT Wn u (T.take (j + 1)) (.slice p n c) wr) := by
          obtain ⟨h1, h2⟩ := hO.out
          refine ⟨?_, h2⟩
          rw [htk.out, goneT_app, show goneT u [x] = [] by simp [goneT, hu], List.append_nil]
          exact h1
        obtain ⟨xu, hxu⟩ : ∃ z, x.u = z := ⟨_, rfl⟩
        rw [hxu] at r0 hub
        clear rs stw hx bw hO hg hu hxu hxH hB r1 r2
        go_wp2_with fail
        go_roundw
        case rel => exact ⟨j + 1, p, n, c, by omega, by go_num, rfl, fin⟩
        case measure => simp [intOf]; omega
      · have hub : (x.u.toList == u.toList) = false := by rw [beqT]; simpa using hu
        obtain ⟨p', n', c', W', g1, g2⟩ := hg.out hu
        rw [← htk.out] at g2
        have fin := hidP g2
        obtain ⟨xu, hxu⟩ : ∃ z, x.u = z := ⟨_, rfl⟩
        obtain ⟨xw, hxw⟩ : ∃ z, x.w = z := ⟨_, rfl⟩
        obtain ⟨xt, hxt⟩ : ∃ z, x.t = z := ⟨_, rfl⟩
        rw [hxu] at r0 hub g1
        rw [hxw] at r1 g1
        rw [hxt] at r2 g1
        obtain ⟨A, hA⟩ : ∃ A, wr.alloc (.cells #[.string xu, .string xw, .int .i64 xt] 68) = A := ⟨_, rfl⟩
        rw [hA] at g1
        clear rs stw hx bw hO hg hu hxu hxw hxt hxH g2
        go_wp2_with (first | rw [hA] | (at_builtin; refine wpList_append_run rfl _ _ 28 rfl _ _ _ _ rfl rfl g1 ?_))
        go_roundw
        case rel => exact ⟨j + 1, p', n', c', by omega, by go_num, rfl, fin⟩
        case measure => simp [intOf]; omega
    · have hjm : j = m := by omega
      have hjI : ¬ (j : Int) < (m : Int) := by omega
      have hjd : decide ((j : Int) < (m : Int)) = false := decide_eq_false hjI
      have htk : T.take j = T := List.take_of_length_le (by have := hmH.out; omega)
      have hO2 := hO.out
      rw [htk] at hO2
      obtain ⟨nt, hnt⟩ : ∃ nt, (goneT u T).length = nt := ⟨_, rfl⟩
      obtain rfl : n = nt := by
        obtain ⟨p2, c2, e⟩ := hO2.1.shape
        injection e with e1 e2 e3
        omega
      have hntl : n ≤ m := by rw [← hnt, ← hmH.out]; exact List.length_filter_le _ _
      have hntI : (n : Int) ≤ 1000 := by omega
      have hntH := hidP hnt
      have hTH := hidP hO2
      have bX : Hid (Below W.heap.size W wr) := bw
      have hG0 : Hid (FE wr u (L.take 0) (.slice none 0 0) wr) := ⟨.inl ⟨rfl, by simp [goneL]⟩, Below.refl _ _, fun j e => by cases e⟩
      clear hO hO2 htk bw hnt
      go_wp2_with fail
      rename World => X
      go_loopw [8, 9] (fun o i wr => ∃ (j2 : Nat) (p2 : Option Addr) (n2 c2 : Nat), j2 ≤ q ∧ i = .int .i64 j2 ∧ o = .slice p2 n2 c2 ∧ Hid (FE X u (L.take j2) (.slice p2 n2 c2) wr)) (fun _ i _ => q - (intOf i).toNat)
      case atStart => exact ⟨0, none, 0, 0, Nat.zero_le _, rfl, rfl, hG0⟩
      case round =>
        obtain ⟨j2, p2, n2, c2, hj2, rfl, rfl, hP⟩ := hrel
        clear hG0 k1
        have bw2 : Below W.heap.size W wr := bX.out.trans (hP.out.2.1.mono bX.out.size)
        have k0 : wr.cell? ⟨rb, 0, none⟩ = some (.slice pe q ce) := bcell bw2 (cell_lt ccH.out.1) ccH.out.1
        by_cases hlt2 : j2 < q
        · obtain ⟨x, hx⟩ : ∃ x, L[j2]? = some x := ⟨_, List.getElem?_eq_getElem (by have := hqH.out; omega)⟩
          have stw := hslH.out.mv (F := fun _ => False) (Mv.below bw2) (fun _ _ f => f)
          obtain ⟨g, o, cap, hgv, rs⟩ := stw.resolve_left (fun z => by rw [z.2] at hx; cases hx)
          injection hgv with e1 e2 e3
          subst e1
          subst e3
          clear e2
          obtain ⟨r0, r1, r2, r3, r4⟩ := rs.ra.at hx
          have htl : Hid ((L.take j2).length ≤ 1000) := by
            have := hqH.out
            show _ ≤ _
            rw [List.length_take]; omega
          obtain ⟨B, hB⟩ : ∃ B, wr.heap.size = B := ⟨_, rfl⟩
          have htk : Hid (L.take (j2 + 1) = L.take j2 ++ [x]) := take_succ_get hx
          have hg : Hid (¬ x.u = u → _) := fun hd => hP.out.grow (by have := htl.out; omega) x hd hB
          have hjI2 : (j2 : Int) < (q : Int) := by omega
          have hjc2 : j2 < ce := by have := rs.le; have := hqH.out; omega
          by_cases hu : x.u = u
          · have hub : (x.u.toList == u.toList) = true := by rw [beqT]; simpa using hu
            have fin : Hid (FE X u (L.take (j2 + 1)) (.slice p2 n2 c2) wr) := by
              obtain ⟨h1, h2⟩ := hP.out
              refine ⟨?_, h2⟩
              rw [htk.out, goneL_app, show goneL u [x] = [] by simp [goneL, hu], List.append_nil]
              exact h1
            obtain ⟨xu, hxu⟩ : ∃ z, x.u = z := ⟨_, rfl⟩
            rw [hxu] at r3 hub
            clear rs stw hx bw2 hP hg hu hxu hB r0 r1 r2 r4
            go_wp2_with fail
            go_roundw
            case rel => exact ⟨j2 + 1, p2, n2, c2, by omega, by go_num, rfl, fin⟩
            case measure => simp [intOf]; omega
          · have hub : (x.u.toList == u.toList) = false := by rw [beqT]; simpa using hu
            obtain ⟨p', n', c', W', g1, g2⟩ := hg.out hu
            rw [← htk.out] at g2
            have fin := hidP g2
            obtain ⟨xk, hxk⟩ : ∃ z, x.k = z := ⟨_, rfl⟩
            obtain ⟨xp, hxp⟩ : ∃ z, x.p = z := ⟨_, rfl⟩
            obtain ⟨xs, hxs⟩ : ∃ z, x.s = z := ⟨_, rfl⟩
            obtain ⟨xu, hxu⟩ : ∃ z, x.u = z := ⟨_, rfl⟩
            obtain ⟨xx, hxx⟩ : ∃ z, x.x = z := ⟨_, rfl⟩
            rw [hxk] at r0 g1
            rw [hxp] at r1 g1
            rw [hxs] at r2 g1
            rw [hxu] at r3 hub g1
            rw [hxx] at r4 g1
            obtain ⟨A, hA⟩ : ∃ A, wr.alloc (.cells #[.int .i64 xk, .int .i64 xp, .int .i64 xs, .string xu, .string xx] 32) = A := ⟨_, rfl⟩
            rw [hA] at g1
            clear rs stw hx bw2 hP hg hu hxk hxp hxs hxu hxx g2
            go_wp2_with (first | rw [hA] | (at_builtin; refine wpList_append_run rfl _ _ 27 rfl _ _ _ _ rfl rfl g1 ?_))
            go_roundw
            case rel => exact ⟨j2 + 1, p', n', c', by omega, by go_num, rfl, fin⟩
            case measure => simp [intOf]; omega
        · have hjm2 : j2 = q := by omega
          have hjI2 : ¬ (j2 : Int) < (q : Int) := by omega
          have hjd2 : decide ((j2 : Int) < (q : Int)) = false := decide_eq_false hjI2
          have htk2 : L.take j2 = L := List.take_of_length_le (by have := hqH.out; omega)
          have hP2 := hP.out
          rw [htk2] at hP2
          obtain ⟨ne, hne⟩ : ∃ ne, (goneL u L).length = ne := ⟨_, rfl⟩
          obtain rfl : n2 = ne := by
            obtain ⟨p3, c3, e⟩ := hP2.1.shape
            injection e with e1 e2 e3
            omega
          have hnel : n2 ≤ q := by rw [← hne, ← hqH.out]; exact List.length_filter_le _ _
          have hneI : (n2 : Int) ≤ 1000 := by omega
          obtain ⟨V, hV⟩ : ∃ V, (wr.setCell ⟨rb, 1, none⟩ (.slice p n c)).setCell ⟨rb, 0, none⟩ (.slice p2 n2 c2) = V := ⟨_, rfl⟩
          have fin : Hid (Rgo W rb E (goneL u L) (goneT u T) V) := by
            obtain ⟨t1, t2, t3⟩ := hTH.out
            obtain ⟨p1', p2', p3'⟩ := hP2
            have s1 := bn.out.size
            have s2 := bX.out.size
            refine Rl.setB hRH.out bw2 (t1.mv (F := fun _ => False) (Mv.below p2') (fun _ _ h => h)) p1' (fun j e => by have := t3 j e; omega) (fun j e => by have := p3' j e; omega) (fun j e e' => ?_) hV
            have a := p3' j e
            have b := t1.lt e'
            omega
          have w1 : wr.cell? ⟨rb, 1, none⟩ = some (.slice pv m cv) := bcell bw2 (cell_lt ccH.out.2) ccH.out.2
          have w2 : wr.frozen? ⟨rb, 1, none⟩ = false := (bfroz bw2 (cell_lt ccH.out.2)).trans ffH.out.2
          have w3 : wr.frozen? ⟨rb, 0, none⟩ = false := (bfroz bw2 (cell_lt ccH.out.1)).trans ffH.out.1
          obtain ⟨R1, hR1⟩ : ∃ R1, S - (n : Int) = R1 := ⟨_, rfl⟩
          obtain ⟨R2, hR2⟩ : ∃ R2, R1 - (n2 : Int) = R2 := ⟨_, rfl⟩
          have hw1 : IntKind.i64.wrap (S - (n : Int)) = R1 := by rw [IntKind.wrap_i64]; have := hSH.out; omega
          have hw2 : IntKind.i64.wrap (R1 - (n2 : Int)) = R2 := by rw [IntKind.wrap_i64]; have := hSH.out; omega
          have res : Hid (((T.length : Int) - (goneT u T).length) + ((L.length : Int) - (goneL u L).length) = R2) := by
            show _ = _
            rw [hntH.out, hne, hmH.out, hqH.out]
            have := hSH.out
            omega
          clear hP hP2 htk2 bw2 hne hR1 hR2
          go_wp2_with (rw [hV])
          go_ret
          exact ⟨by rw [res.out]; rfl, fin.out⟩
end Go.Proofs.YtdcidlgmnnaahaaGreat
/- Arguments of nested types, opened by their readings: strings, numbers, structs, slices of whatever. -/
namespace Go.Proofs.YtdcidlgmnnaahaaGreat
open Go.RowKit Go.ChangeShapes Go.WideShapes
theorem weightsAll_mem {H : Type} {P : Program} {e : TypeId} : ∀ {l : List (DataW H)} {d : DataW H} {n : Nat}, d ∈ l → n ∈ d.weights P e → n ∈ DataW.weightsAll P e l
  | d0 :: l, d, n, hd, hn => by
    simp only [DataW.weightsAll, List.mem_append]
    rcases List.mem_cons.1 hd with rfl | hd
    · exact .inl hn
    · exact .inr (weightsAll_mem hd hn)
/-- These cells read as a value of type t, and no part of it is beyond the reach. -/
def Rd (P : Program) (w : World) (t : TypeId) (cs : List Value) : Prop :=
  ∃ (H : Type) (enc : TypeId × Value → H) (fuel : Nat) (x : DataW H × List MemPlace), DataW.trod enc P w 0 (fun _ => true) true fuel t cs = some x ∧ ∀ n ∈ x.1.weights P t, n ≤ reachBytes
theorem rd_string {P : Program} {w : World} {t : TypeId} {cs : List Value} (h : Rd P w t cs) (ht : P.underlying t = some .string) : ∃ s : ByteArray, cs = [.string s] ∧ s.size ≤ 140737488355328 := by
  obtain ⟨H, enc, fuel, x, h1, h2⟩ := h
  obtain ⟨s, rfl, rfl, _⟩ := DataW.trod_string ht h1
  refine ⟨s, rfl, ?_⟩
  have := h2 s.data.toList.length (by simp [DataW.weights])
  unfold reachBytes at this
  rw [Array.length_toList] at this
  have e : s.size = s.data.size := rfl
  omega
theorem rd_int {P : Program} {w : World} {t : TypeId} {k : IntKind} {cs : List Value} (h : Rd P w t cs) (ht : P.underlying t = some (.int k)) : ∃ n, cs = [.int k n] ∧ (Lit.int k n).wf = true := by
  obtain ⟨H, enc, fuel, x, h1, h2⟩ := h
  obtain ⟨n, rfl, rfl, hw⟩ := DataW.trod_int ht h1
  exact ⟨n, rfl, hw⟩
theorem rd_bool {P : Program} {w : World} {t : TypeId} {cs : List Value} (h : Rd P w t cs) (ht : P.underlying t = some .bool) : ∃ b, cs = [.bool b] := by
  obtain ⟨H, enc, fuel, x, h1, h2⟩ := h
  obtain ⟨b, rfl, rfl⟩ := DataW.trod_bool ht h1
  exact ⟨b, rfl⟩
theorem rd_struct {P : Program} {w : World} {t : TypeId} {fs : Array Field} {cs : List Value} (h : Rd P w t cs) (ht : P.underlying t = some (.struct fs)) :
    cs.length = P.cellsOf t ∧ ∀ (i : Nat) (f : Field), fs[i]? = some f → Rd P w f.type ((cs.drop f.offset).take (P.cellsOf f.type)) := by
  obtain ⟨H, enc, fuel, x, h1, h2⟩ := h
  obtain ⟨xs, n, _, rfl, hl, hxl, hx⟩ := DataW.trod_struct ht h1
  refine ⟨hl, fun i f hf => ?_⟩
  have hi : i < xs.length := by rw [hxl]; exact (Array.getElem?_eq_some_iff.1 hf).1
  refine ⟨H, enc, n, xs[i], by rw [hx i f hf, List.getElem?_eq_getElem hi], fun m hm => h2 m ?_⟩
  simp only [DataW.weights, ht]
  refine DataW.weights_mem_each (j := i) (t := f.type) (d := xs[i].1) ?_ ?_ m hm
  · rw [List.getElem?_map, Array.getElem?_toList, hf]; rfl
  · rw [List.getElem?_map, List.getElem?_eq_getElem hi]; rfl
theorem rd_slice {P : Program} {w : World} {t e : TypeId} {cs : List Value} (h : Rd P w t cs) (ht : P.underlying t = some (.slice e)) :
    cs = [.slice none 0 0] ∨ ∃ (a : Addr) (len cap : Nat), cs = [.slice (some a) len cap] ∧ len ≤ cap ∧ cap ≤ maxLen ∧ cap * P.bytesOf e ≤ reachBytes ∧
      ∀ i, i < len → ∃ cs', w.cells? 0 (a.add (i * P.cellsOf e)) (P.cellsOf e) = some cs' ∧ Rd P w e cs' := by
  obtain ⟨H, enc, fuel, x, h1, h2⟩ := h
  rcases Go.Deep.open_slice ht h1 with ⟨hcs, _⟩ | ⟨a, len, cap, m, n, D, Pl, hcs, _, hl, hm, hmm, rfl, hx⟩
  · exact .inl hcs
  · simp only [if_true] at hmm
    subst hmm
    refine .inr ⟨a, len, m, hcs, hl, hm, ?_, fun i hi => ?_⟩
    · skip
      have h3 := h2 ((((List.range len).map D).length + ((List.range (m - len)).map fun j => D (len + j)).length) * P.bytesOf e) (by simp only [DataW.weights, ht]; exact List.mem_cons_self)
      simp only [List.length_map, List.length_range] at h3
      rwa [show len + (m - len) = m by omega] at h3
    · obtain ⟨cs', c1, c2⟩ := hx i (by omega)
      refine ⟨cs', c1, H, enc, n, _, c2, fun k hk => h2 k ?_⟩
      simp only [DataW.weights, ht, List.mem_cons, List.mem_append]
      exact .inr (.inl (weightsAll_mem (d := D i) (List.mem_map.2 ⟨i, List.mem_range.2 hi, rfl⟩) hk))
/-- The cells of a reading, one by one. -/
theorem rd_cell {w : World} {a : Addr} {n : Nat} {cs : List Value} (h : w.cells? 0 a n = some cs) : cs.length = n ∧ ∀ i, i < n → w.cell? (a.add i) = cs[i]? := by
  obtain ⟨_, h1, h2⟩ := World.cells?_some h
  exact ⟨h1, fun i hi => by simpa using h2 i hi⟩
/-- An argument is read so. -/
theorem rd_of_trod {H : Type} {enc : TypeId × Value → H} {P : Program} {w : World} {t : TypeId} {v : Value} {d : DataW H} {ps : List MemPlace} {ts : List TypeId} {ds : List (DataW H)} {j : Nat}
    (h : DataW.Trod enc P w 0 (fun _ => true) true t v d ps) (hz : (DataW.weightsEach P ts ds).all (· ≤ reachBytes) = true) (ht : ts[j]? = some t) (hd : ds[j]? = some d) : Rd P w t v.cells.toList := by
  obtain ⟨fuel, hf⟩ := h
  refine ⟨H, enc, fuel, (d, ps), hf, fun n hn => ?_⟩
  have := List.all_eq_true.1 hz _ (DataW.weights_mem_each ht hd n hn)
  simpa using this
end Go.Proofs.YtdcidlgmnnaahaaGreat
