import Derived.Test.YtjcdjkfnmobhkaaGreatBq
/- What queue.trees tells: a stack of records. -/
namespace Go.Proofs.YtjcdjkfnmobhkaaGreat.Qw
open Go.RowKit Go.Shelf Go.Lib
attribute [local go_sem] Oper.semAt_some
/-- The stack S tells out: its last one, which leaves those behind it. -/
def Ot (w : World) (B : Nat → Prop) : List Rec → List Rec → Prop
  | [], S => S = []
  | x :: out, S => ∃ S' ts, S = S' ++ [x] ∧ LC w B ts x.p ∧ Ot w B out (S' ++ ts)
theorem Ot.mv {F : Nat → Prop} {w V : World} {B : Nat → Prop} (m : Mv F w V) (hF : ∀ k, B k → ¬ F k) : ∀ (out S : List Rec), Ot w B out S → Ot V B out S
  | [], _, h => h
  | x :: out, S, h => by
    obtain ⟨S', ts, h1, h2, h3⟩ := h
    exact ⟨S', ts, h1, LC.mv m hF _ _ h2, Ot.mv m hF out _ h3⟩
theorem Ot.len {w : World} {B : Nat → Prop} : ∀ (out S : List Rec), Ot w B out S → S.length ≤ out.length
  | [], S, h => by
    have e : S = [] := h
    simp [e]
  | x :: out, S, h => by
    obtain ⟨S', ts, h1, _, h3⟩ := h
    have z := Ot.len out _ h3
    rw [List.length_append] at z
    rw [h1, List.length_append, List.length_cons]
    simp only [List.length_cons, List.length_nil]
    omega
theorem Ot.of {w : World} {B : Nat → Prop} : ∀ (N : Nat) (S : List Rec) (F : List (Tr El)), RF w B S F → (elsL F).length ≤ N → ∃ out, Ot w B out S ∧ (out.map fun x => (x.v, x.t)).Perm (elsL F) := by
  intro N
  induction N with
  | zero =>
    intro S F h hN
    cases F with
    | nil =>
      have : S = [] := List.eq_nil_of_length_eq_zero h.len
      exact ⟨[], this, List.Perm.nil⟩
    | cons y F => rw [elsL_cons] at hN; simp at hN
  | succ N ih =>
    intro S F h hN
    by_cases hF : F = []
    · subst hF
      have : S = [] := List.eq_nil_of_length_eq_zero h.len
      exact ⟨[], this, List.Perm.nil⟩
    · obtain ⟨F', y, rfl⟩ := snoc_of hF
      obtain ⟨S', b, rfl, h1, h2⟩ := h.split
      cases b with
      | nil => exact h2.elim
      | cons x b =>
        obtain ⟨⟨e1, e2, hk⟩, hb⟩ := h2
        have : b = [] := List.eq_nil_of_length_eq_zero (RF.len hb)
        subst this
        obtain ⟨ts, hc, ht⟩ := LR.chain _ _ hk
        have hp : (elsL (F' ++ [y])).Perm ((y.v, y.t) :: elsL (F' ++ y.k.toL)) := by
          rw [elsL_app, elsL_app, elsL_toL, elsL_cons, elsL_nil, List.append_nil]
          exact List.perm_middle
        obtain ⟨out, ho, hq⟩ := ih (S' ++ ts) (F' ++ y.k.toL) (h1.app ht) (by
          have := hp.length_eq
          rw [List.length_cons] at this
          omega)
        refine ⟨x :: out, ⟨S', ts, rfl, hc, ho⟩, ?_⟩
        rw [List.map_cons, e1, e2]
        exact (hq.cons _).trans hp.symm
theorem ptrV_inj {a b : Option Nat} (h : ptrV a = ptrV b) : a = b := by
  cases a <;> cases b <;> simp [ptrV] at h <;> simp [h]
theorem SV.ps {w : World} {v : Value} {S T : List Rec} (h : SV w v S) (k : SV w v T) : S.map (·.p) = T.map (·.p) := by
  rcases h with ⟨rfl, rfl⟩ | ⟨g, o, c, rfl, h⟩
  · rcases k with ⟨_, rfl⟩ | ⟨g, o, c, e, _⟩
    · rfl
    · cases e
  · rcases k with ⟨e, _⟩ | ⟨g', o', c', e, k⟩
    · cases e
    · injection e with e1 e2 e3
      injection e1 with e1
      injection e1 with e4 e5
      subst e4
      subst e5
      refine List.ext_getElem (by simp [e2]) fun j h1 h2 => ?_
      rw [List.length_map] at h1 h2
      have z1 := (h.ra.at (List.getElem?_eq_getElem h1)).2.2
      have z2 := (k.ra.at (List.getElem?_eq_getElem h2)).2.2
      rw [List.getElem_map, List.getElem_map]
      rw [z1] at z2
      injection z2 with z2
      exact ptrV_inj z2
theorem LC.ps {w : World} {B : Nat → Prop} : ∀ (S T : List Rec) (p : Option Nat), LC w B S p → LC w B T p → S.map (·.p) = T.map (·.p)
  | [], [], _, _, _ => rfl
  | [], _ :: _, _, h, k => by
    have e : _ = none := h
    obtain ⟨_, _, e2, _⟩ := k
    rw [e] at e2
    cases e2
  | _ :: _, [], _, h, k => by
    have e : _ = none := k
    obtain ⟨_, _, e2, _⟩ := h
    rw [e] at e2
    cases e2
  | x :: S, y :: T, p, h, k => by
    obtain ⟨b, pr, rfl, _, _, _, c2, c3, h⟩ := h
    obtain ⟨b', pr', e, _, _, _, d2, d3, k⟩ := k
    injection e with e
    subst e
    rw [c2] at d2
    rw [c3] at d3
    injection d2 with d2
    injection d3 with d3
    rw [← ptrV_inj d3] at k
    rw [List.map_cons, List.map_cons, LC.ps S T pr h k, ptrV_inj d2]
theorem Ot.one {w : World} {B : Nat → Prop} : ∀ (o1 o2 S T : List Rec), Ot w B o1 S → Ot w B o2 T → S.map (·.p) = T.map (·.p) → o1.length = o2.length
  | [], [], _, _, _, _, _ => rfl
  | [], _ :: _, S, T, h, k, e => by
    have e1 : S = [] := h
    obtain ⟨T', _, e2, _⟩ := k
    rw [e1, e2] at e
    simp at e
  | _ :: _, [], S, T, h, k, e => by
    have e1 : T = [] := k
    obtain ⟨S', _, e2, _⟩ := h
    rw [e1, e2] at e
    simp at e
  | x :: o1, y :: o2, S, T, h, k, e => by
    obtain ⟨S', ts, rfl, h1, h2⟩ := h
    obtain ⟨T', us, rfl, k1, k2⟩ := k
    rw [List.map_append, List.map_append] at e
    obtain ⟨e1, e2⟩ := List.append_inj' e rfl
    have e3 : x.p = y.p := by simpa using e2
    rw [← e3] at k1
    have z := Ot.one o1 o2 _ _ h2 k2 (by rw [List.map_append, List.map_append, e1, LC.ps ts us x.p h1 k1])
    rw [List.length_cons, List.length_cons, z]
/-- How many a slice will tell. -/
theorem Ot.mu (B : Nat → Prop) : ∃ mu : Value → World → Nat, ∀ v w S out, SV w v S → Ot w B out S → mu v w = out.length := by
  classical
  refine ⟨fun v w => if h : ∃ n, ∃ S out, SV w v S ∧ Ot w B out S ∧ out.length = n then h.choose else 0, fun v w S out h1 h2 => ?_⟩
  have hx : ∃ n, ∃ S out, SV w v S ∧ Ot w B out S ∧ out.length = n := ⟨_, S, out, h1, h2, rfl⟩
  show (if h : ∃ n, ∃ S out, SV w v S ∧ Ot w B out S ∧ out.length = n then h.choose else 0) = _
  rw [dif_pos hx]
  obtain ⟨S', out', k1, k2, k3⟩ := hx.choose_spec
  rw [← k3]
  exact Ot.one _ _ _ _ k2 h2 (k1.ps h1)
end Go.Proofs.YtjcdjkfnmobhkaaGreat.Qw
/- queue.trees as a row. -/
namespace Go.Proofs.YtjcdjkfnmobhkaaGreat.Qw
open Go.RowKit Go.Shelf Go.Lib
attribute [local go_sem] Oper.semAt_some
theorem allq_any (p : Option Nat) (w : World) : Calls Tryz.prog 68 #[ptrV p] w fun e V => e = .returned (.func (.func 85) #[] #[.pointer (some ⟨w.heap.size, 0, none⟩)]) ∧ V = w.alloc (.cells #[ptrV p] 102) := by
  go_enter Tryz.func68, Tryz.ntmps68
  go_wp2_with fail
  go_ret
  exact ⟨rfl, rfl⟩
set_option maxRecDepth 100000 in
set_option maxHeartbeats 4000000 in
theorem trees_row (q bl : Nat) (v : Value) (xs out : List Rec) (B E : Nat → Prop) (W : World) (cb : W.cell? ⟨bl, 0, none⟩ = some (qp q)) (cq : W.cell? ⟨q, 1, none⟩ = some v) (sv : SV W v xs) (ho : Ot W B out xs) (eb : ¬ E bl) (eq : ¬ E q) (ev : ∀ k, nbk v = some k → ¬ E k) (hE : ∀ k, B k → ¬ E k) (lo : ∀ k, B k → k < W.heap.size) (hl : out.length ≤ 200000) :
    Row Tryz.prog 75 #[.pointer (some ⟨bl, 0, none⟩)] encR out E W := by
  intro u J Jx E1 V m gr hJ hJx hY h0
  have d1 := m.cell (a := ⟨bl, 0, none⟩) eb cb
  have d2 := m.cell (a := ⟨q, 1, none⟩) eq cq
  have svV := sv.mv m ev
  have hoV := Ot.mv m hE _ _ ho
  have hE1 : Hid (∀ k, B k → ¬ E1 k) := fun k hk => gr.free (lo k hk) (hE k hk)
  have loV : Hid (∀ k, B k → k < V.heap.size) := fun k hk => Nat.lt_of_lt_of_le (lo k hk) m.size
  have hYH := hidP hY
  have hJH := hidP hJ
  have lJ := hJ.low _ _ _ h0
  have hcl : Hid (Calls Tryz.prog 76 #[v] V fun e V1 => ∃ v1, e = .returned v1 ∧ SV V1 v1 xs ∧ Ot V1 B out xs ∧ J out E1 V1 ∧ (∀ k, nbk v1 = some k → V.heap.size ≤ k ∧ ¬ E1 k) ∧ Mv E1 V V1) := by
    refine (clone_any svV (by have := Ot.len _ _ hoV; omega)).mono ?_
    rintro e V1 ⟨v1, rfl, s1, f1, b1⟩
    exact ⟨v1, rfl, s1, Ot.mv (F := fun _ => False) (Mv.below b1) (fun _ _ h => h) _ _ hoV, hJ.keep _ _ _ _ h0 (Mv.below b1), fun k hk => ⟨f1 k hk, fun e => by have := lJ k e; have := f1 k hk; omega⟩, Mv.below b1⟩
  obtain ⟨mu, hmu⟩ := Ot.mu B
  have hmuH := hidP hmu
  clear hmu cb cq sv ho eb eq ev hE lo hY hJ lJ svV hoV h0 m gr
  unfold qp at d1
  refine (callsIn_wide (n := 5)).1 ?_
  refine callsIn_of_wp Tryz.func75 rfl trivial ?_ rfl
  simp only [Tryz.ntmps75, List.size_toArray, List.length_cons, List.length_nil, Nat.reduceAdd, Nat.reduceSub, Array.replicate_succ, Array.replicate_zero, List.push_toArray, List.append_toArray, List.nil_append, List.cons_append]
  gi_wp2_with fail
  refine ⟨trivial, (callsIn_wide.2 hcl.out).mono ?_⟩
  rintro e V1 ⟨v1, rfl, s1, o1, j1, f1, m1⟩
  have s1H := hidP s1
  have o1H := hidP o1
  have j1H := hidP j1
  have f1H := hidP f1
  have m1H := hidP m1
  clear s1 o1 j1 f1 m1 hcl d1 d2
  gi_wp2_with fail
  gi_loopw [3] (fun lv wr => ∃ (rest S : List Rec) (E2 : Nat → Prop), rest.length ≤ 200000 ∧ Hid (SV wr lv S) ∧ Hid (Ot wr B rest S) ∧ Hid (J rest E2 wr) ∧ Hid (∀ k, nbk lv = some k → V.heap.size ≤ k ∧ ¬ E2 k) ∧ Hid (Mv E1 V wr) ∧ Hid (Gr E1 V E2)) (fun lv wr => mu lv wr)
  case atStart => exact ⟨out, xs, E1, hl, s1H, o1H, j1H, f1H, m1H, Gr.refl _ _⟩
  case round =>
    obtain ⟨rest, S, E2, hrl, hs, hot, hj, hf, hm, hg⟩ := hrel
    clear s1H o1H j1H f1H m1H
    cases rest with
    | nil =>
      obtain rfl : S = [] := hot.out
      obtain ⟨p, c, rfl⟩ := hs.out.shape
      gi_wp2_with fail
      go_end0
      exact ⟨⟨_, rfl⟩, hm.out, .inl ⟨E2, hg.out, hj.out⟩⟩
    | cons x rest =>
      have hk0 : Hid (_ = (x :: rest).length) := hmuH.out _ _ _ _ hs.out hot.out
      have hSl := Ot.len _ _ hot.out
      obtain ⟨S', ts, rfl, hc, ho'⟩ := hot.out
      rcases hs.out with ⟨_, e⟩ | ⟨g, o, c, rfl, hrs⟩
      · simp at e
      obtain ⟨n, hn⟩ : ∃ n, S'.length = n := ⟨_, rfl⟩
      have len1 : (S' ++ [x]).length = n + 1 := by simp [hn]
      have u0 := hrs.ra.at (j := n) (x := x) (by rw [← hn]; simp)
      obtain ⟨N, hN⟩ : ∃ N, wr.heap.size = N := ⟨_, rfl⟩
      obtain ⟨W1, hW1⟩ : ∃ W1, wr.alloc (.cells #[vc0 x.v, vc1 x.v, vc2 x.v, vc3 x.v, vc4 x.v, vc5 x.v, .int .i64 x.t, ptrV x.p] 104) = W1 := ⟨_, rfl⟩
      have b1 : Below wr.heap.size wr W1 := by rw [← hW1]; exact (Below.refl _ _).alloc (Nat.le_refl _) _
      have hN1 : W1.heap.size = N + 1 := by rw [← hW1]; simp [hN]
      have bx : ∀ j u, #[vc0 x.v, vc1 x.v, vc2 x.v, vc3 x.v, vc4 x.v, vc5 x.v, .int .i64 x.t, ptrV x.p][j]? = some u → W1.cell? ⟨N, j, none⟩ = some u := fun j u hj => by rw [← hW1]; exact cell_at hN hj
      obtain ⟨W2, hW2⟩ : ∃ W2, W1.drew.alloc (.cells #[ptrV x.p] 102) = W2 := ⟨_, rfl⟩
      have b2 : Below W1.heap.size W1 W2 := by rw [← hW2]; exact (Below.refl _ _).drew.alloc (Nat.le_refl _) _
      have b02 : Below wr.heap.size wr W2 := b1.trans (b2.mono b1.size)
      have hall : Hid (Calls Tryz.prog 68 #[ptrV x.p] W1.drew fun e V => e = .returned (.func (.func 85) #[] #[.pointer (some ⟨N + 1, 0, none⟩)]) ∧ V = W2) := by
        have := allq_any x.p W1.drew
        rw [hW2, show W1.drew.heap.size = N + 1 from hN1] at this
        exact this
      have hgf := hf.out g rfl
      have lg : g < N := by rw [← hN]; exact hrs.rm.lt
      have svW : SV W2 (slv g o n c) S' := by
        have r : SV wr (slv g o n c) S' := .inr ⟨g, o, c, by rw [hn], by have := hrs.le; rw [len1] at this; omega, hrs.rm, ((RA.app (xs := S') (ys := [x])).1 hrs.ra).1⟩
        exact r.mv (F := fun _ => False) (Mv.below b02) (fun _ _ h => h)
      have szV := hm.out.size
      have szB : ∀ k, B k → k < N := fun k hk => by have := loV.out k hk; omega
      have lts : ts.length ≤ rest.length := by have := Ot.len _ _ ho'; rw [List.length_append] at this; omega
      have h2s : W2.heap.size = N + 2 := by rw [← hW2]; simp [hN1]
      have hS1 : W2.cell? ⟨N, 7, none⟩ = some (ptrV x.p) := bcell b2 (by omega) (bx 7 _ rfl)
      have happ : Hid (Calls Tryz.prog 77 #[.slice (some ⟨g, o, none⟩) n c, .func (.func 85) #[] #[.pointer (some ⟨N + 1, 0, none⟩)]] W2 fun e V3 => ∃ p3 n3 c3, e = .returned (.slice p3 n3 c3) ∧ V3.cell? ⟨N, 7, none⟩ = some (ptrV x.p) ∧ (∀ j u, #[vc0 x.v, vc1 x.v, vc2 x.v, vc3 x.v, vc4 x.v, vc5 x.v, .int .i64 x.t, ptrV x.p][j]? = some u → V3.cell? ⟨N, j, none⟩ = some u) ∧ SV V3 (.slice p3 n3 c3) (S' ++ ts) ∧ Ot V3 B rest (S' ++ ts) ∧ J (x :: rest) E2 V3 ∧ (∀ k, nbk (.slice p3 n3 c3) = some k → V.heap.size ≤ k ∧ ¬ E2 k) ∧ Mv E1 V V3) := by
        have hB2 : ∀ k, B k → ¬ E2 k := fun k hk e => by
          rcases hg.out k e with s | s
          · exact hE1.out k hk s
          · have := loV.out k hk; omega
        refine (appendseq_any S' ts (slv g o n c) x.p (N + 1) B W2 svW (by rw [← hW2]; exact cell_at hN1 rfl) (fun e => by injection e with e; have e' : g = N + 1 := e; omega) (LC.mv (F := fun _ => False) (Mv.below b02) (fun _ _ h => h) _ _ hc) (fun k hk e => by injection e with e; have e' : g = k := e; have := loV.out k hk; omega) (fun k hk => by have := szB k hk; omega) (by simp only [List.length_cons] at hrl; rw [List.length_append] at hSl; simp only [List.length_cons, List.length_nil] at hSl; omega)).mono ?_
        rintro e V3 ⟨v3, rfl, s3, m3, at3⟩
        obtain ⟨p3, c3, rfl⟩ := s3.shape
        have lJ := hJH.out.low _ _ _ hj.out
        have hg0 : ∀ k, nbk (slv g o n c) = some k → k = g := fun k hk => by injection hk with hk; exact hk.symm
        have nBs : ∀ k, B k → ¬ nbk (slv g o n c) = some k := fun k hk e => by have := hg0 k e; have := loV.out k hk; omega
        have nN : ¬ nbk (slv g o n c) = some N := fun e => by have := hg0 N e; omega
        have cN : ∀ j u, #[vc0 x.v, vc1 x.v, vc2 x.v, vc3 x.v, vc4 x.v, vc5 x.v, .int .i64 x.t, ptrV x.p][j]? = some u → V3.cell? ⟨N, j, none⟩ = some u := fun j u hj => m3.cell (a := ⟨N, j, none⟩) nN (bcell b2 (by omega) (bx j u hj))
        refine ⟨p3, _, c3, rfl, cN 7 _ rfl, cN, s3, Ot.mv m3 nBs _ _ (Ot.mv (F := fun _ => False) (Mv.below b02) (fun _ _ h => h) _ _ ho'), hJH.out.keep _ _ _ _ hj.out ((Mv.below b02).trans' (m3.mono fun k _ e => by rw [hg0 k e]; exact ⟨hgf.2, hgf.1⟩)), fun k hk => ?_, (hm.out.trans' (Mv.below b02)).trans (E' := fun k => nbk (slv g o n c) = some k) (fun k e => .inr (by rw [hg0 k e]; exact hgf.1)) m3⟩
        rcases at3 with z | ⟨k', z, hk'⟩
        · rw [hk] at z
          rw [hg0 k z.symm]
          exact hgf
        · rw [hk] at z
          injection z with z
          exact ⟨by omega, fun e => by have := lJ k e; omega⟩
      have hrlI : (n : Int) + 1 ≤ 200000 := by rw [len1] at hSl; omega
      have hnc : n + 1 ≤ c := by have := hrs.le; rw [len1] at this; exact this
      have hc0 : ¬ c = 0 := by omega
      have hwn : IntKind.i64.wrap (n : Int) = (n : Int) := by rw [IntKind.wrap_i64]; omega
      have hcI : (n : Int) ≤ (c : Int) := by omega
      have hS0 : W1.drew.cell? ⟨N, 7, none⟩ = some (ptrV x.p) := bx 7 _ rfl
      have hNH := hidP hN
      rw [len1] at hk0
      have len1H := hidP len1
      have hrl2 : rest.length ≤ 200000 := by rw [List.length_cons] at hrl; omega
      clear hrs svW szV szB lts hc ho' hot hs hj hf b1 b2 b02 hgf lg bx hSl len1 hrl
      unfold slv at *
      gi_wp2_with (first | rw [hW1])
      refine wpIn_wide.2 ?_
      refine Zs.region (S := fun W => W.cell? ⟨N, 7, none⟩ = some (ptrV x.p)) 9 (by kernel_rfl) ?_
      refine Zs.pure (i := 0) (oi := ⟨some 19, _, _, _, _, _⟩) (v := ?v0) rfl (by kernel_rfl) (by kernel_rfl) (by kernel_rfl) (by decide) (fun _ _ _ h => h) (Or.inl ⟨by rfl, ?hy0⟩) hS0 ?_
      case hy0 => (intro w hSw; (try dsimp only at hSw); go_simp; try with_reducible rfl)
      simp only [Act.put, List.setIfInBounds_toArray, List.set_cons_zero, List.set_cons_succ]
      refine Zs.pure (i := 1) (oi := ⟨some 20, _, _, _, _, _⟩) (v := ?v1) rfl (by kernel_rfl) (by kernel_rfl) (by kernel_rfl) (by decide) (fun _ _ _ h => h) (Or.inl ⟨by rfl, ?hy1⟩) hS0 ?_
      case hy1 => (intro w hSw; (try dsimp only at hSw); go_simp; try with_reducible rfl)
      simp only [Act.put, List.setIfInBounds_toArray, List.set_cons_zero, List.set_cons_succ]
      refine Zs.pure (i := 2) (oi := ⟨some 21, _, _, _, _, _⟩) (v := ?v2) rfl (by kernel_rfl) (by kernel_rfl) (by kernel_rfl) (by decide) (fun _ _ _ h => h) (Or.inl ⟨by rfl, ?hy2⟩) hS0 ?_
      case hy2 => (intro w hSw; (try dsimp only at hSw); go_simp; try with_reducible rfl)
      simp only [Act.put, List.setIfInBounds_toArray, List.set_cons_zero, List.set_cons_succ]
      refine Zs.pure (i := 3) (oi := ⟨some 22, _, _, _, _, _⟩) (v := ?v3) rfl (by kernel_rfl) (by kernel_rfl) (by kernel_rfl) (by decide) (fun _ _ _ h => h) (Or.inl ⟨by rfl, ?hy3⟩) hS0 ?_
      case hy3 => (intro w hSw; (try dsimp only at hSw); go_simp; try with_reducible rfl)
      simp only [Act.put, List.setIfInBounds_toArray, List.set_cons_zero, List.set_cons_succ]
      refine Zs.pure (i := 4) (oi := ⟨some 23, _, _, _, _, _⟩) (v := .slice (some ⟨g, o, none⟩) n c) rfl (by kernel_rfl) (by kernel_rfl) (by kernel_rfl) (by decide) (fun _ _ _ h => h) (Or.inl ⟨by rfl, ?hy4⟩) hS0 ?_
      case hy4 => (intro w hSw; (try dsimp only at hSw); go_simp; try with_reducible rfl)
      simp only [Act.put, List.setIfInBounds_toArray, List.set_cons_zero, List.set_cons_succ]
      refine Zs.pure (i := 5) (oi := ⟨some 24, _, _, _, _, _⟩) (v := ?v5) rfl (by kernel_rfl) (by kernel_rfl) (by kernel_rfl) (by decide) (fun _ _ _ h => h) (Or.inl ⟨by rfl, ?hy5⟩) hS0 ?_
      case hy5 => (intro w hSw; (try dsimp only at hSw); go_simp; try with_reducible rfl)
      simp only [Act.put, List.setIfInBounds_toArray, List.set_cons_zero, List.set_cons_succ]
      refine Zs.take (i := 6) (oi := ⟨some 25, _, _, _, _, _⟩) (v := ptrV x.p) rfl (by kernel_rfl) (by kernel_rfl) (by kernel_rfl) (by decide) (by kernel_rfl) (by kernel_rfl) (fun _ _ _ h => h) (Or.inl ⟨by rfl, ?hy6⟩) hS0 ?_
      case hy6 => (intro w hSw; (try dsimp only at hSw); go_simp; try with_reducible rfl)
      simp only [Act.put, List.setIfInBounds_toArray, List.set_cons_zero, List.set_cons_succ]
      refine Zs.one (i := 7) (oi := ⟨some 26, _, _, _, _, _⟩) (by kernel_rfl) rfl (fun K hK => ?_)
      go_simp
      refine hall.out.mono ?_
      rintro e W2' ⟨rfl, rfl⟩
      go_wp2_with fail
      refine hK.out _ _ (fun _ => hS1) ?_
      clear hK K hall
      try simp only [Act.put, List.setIfInBounds_toArray, List.set_cons_zero, List.set_cons_succ]
      refine Zs.one (i := 8) (oi := ⟨some 27, _, _, _, _, _⟩) (by kernel_rfl) rfl (fun K hK => ?_)
      go_simp
      refine happ.out.mono ?_
      rintro e V3 ⟨p3, n3, c3, rfl, hS3, cN, h3⟩
      have h3H := hidP h3
      clear h3 happ
      go_wp2_with fail
      refine hK.out _ _ (fun _ => hS3) ?_
      clear hK K
      try simp only [Act.put, List.setIfInBounds_toArray, List.set_cons_zero, List.set_cons_succ]
      refine Zs.one (i := 9) (oi := ⟨some 3, _, _, _, _, _⟩) (by kernel_rfl) rfl (fun K hK => ?_)
      go_simp
      refine hK.out _ _ (fun q => absurd q (by decide)) ?_
      clear hK K
      try simp only [Act.put, List.setIfInBounds_toArray, List.set_cons_zero, List.set_cons_succ]
      refine Zs.done (by kernel_rfl) ?_ _
      obtain ⟨s3, o3, j3, f3, m3⟩ := h3H.out
      obtain ⟨fn, tmps, assign, body, hy, hR⟩ := hYH.out x rest E2 V3 j3
      dsimp only [encR, Rec.val] at hy
      have cc : (V3.cell? ⟨N, 0, none⟩ = some (vc0 x.v) ∧ V3.cell? ⟨N, 1, none⟩ = some (vc1 x.v) ∧ V3.cell? ⟨N, 2, none⟩ = some (vc2 x.v) ∧ V3.cell? ⟨N, 3, none⟩ = some (vc3 x.v) ∧ V3.cell? ⟨N, 4, none⟩ = some (vc4 x.v) ∧ V3.cell? ⟨N, 5, none⟩ = some (vc5 x.v)) := ⟨cN 0 _ rfl, cN 1 _ rfl, cN 2 _ rfl, cN 3 _ rfl, cN 4 _ rfl, cN 5 _ rfl⟩
      have cc1 := cN 6 _ rfl
      have cc2 := cN 7 _ rfl
      have hRH := hidP hR
      clear s3 o3 j3 f3 m3 hR cN hS0 hS1 hS3 hW1 hW2 hN1 h2s u0
      gi_wp2
      refine (wide_round' hRH.out).mono ?_
      obtain ⟨s3, o3, j3, f3, m3⟩ := h3H.out
      rintro e W4 ⟨m4, (⟨rfl, E3, g3, hj3⟩ | ⟨rfl, E3, g3, hj3⟩)⟩
      · have hB2 : ∀ k, B k → ¬ E2 k := fun k hk e => by
          rcases hg.out k e with s | s
          · exact hE1.out k hk s
          · have := loV.out k hk; omega
        have s4 := s3.mv m4 (fun k hk => (f3 k hk).2)
        have o4 := Ot.mv m4 hB2 _ _ o3
        have f4 : ∀ k, nbk (.slice p3 n3 c3) = some k → V.heap.size ≤ k ∧ ¬ E3 k := fun k hk => ⟨(f3 k hk).1, fun e => by
          rcases g3 k e with z | z
          · exact (f3 k hk).2 z
          · have := s3.lt hk; omega⟩
        have m5 := m3.trans hg.out m4
        have g5 := hg.out.trans m3.size g3
        have hmu4 := hmuH.out _ _ _ _ s4 o4
        have fin := hidP (⟨⟨rest, S' ++ ts, E3, by omega, s4, o4, hj3, f4, m5, g5⟩, by have := hk0.out; rw [List.length_cons] at this; rw [hmu4]; omega⟩ : (∃ (rest S : List Rec) (E2 : Nat → Prop), rest.length ≤ 200000 ∧ Hid (SV W4 (.slice p3 n3 c3) S) ∧ Hid (Ot W4 B rest S) ∧ Hid (J rest E2 W4) ∧ Hid (∀ k, nbk (.slice p3 n3 c3) = some k → V.heap.size ≤ k ∧ ¬ E2 k) ∧ Hid (Mv E1 V W4) ∧ Hid (Gr E1 V E2)) ∧ mu (.slice p3 n3 c3) W4 < mu (.slice (some ⟨g, o, none⟩) (n + 1) c) wr)
        clear s3 o3 j3 f3 m3 m4 g3 hj3 s4 o4 f4 m5 g5 hmu4 hB2 cc cc1 cc2 hy h3H
        gi_wp2
        rw [len1H.out]
        exact fin.out
      · have fin := hidP (⟨⟨_, rfl⟩, m3.trans hg.out m4, .inr ⟨E3, hg.out.trans m3.size g3, hj3⟩⟩ : Went J Jx E1 V (.returned (.tuple #[])) W4)
        clear s3 o3 j3 f3 m3 m4 g3 hj3 cc cc1 cc2 hy h3H
        gi_wp2
        refine bodyPost_ret (results_none rfl _ _ _) rfl ?_
        exact fin.out
end Go.Proofs.YtjcdjkfnmobhkaaGreat.Qw
