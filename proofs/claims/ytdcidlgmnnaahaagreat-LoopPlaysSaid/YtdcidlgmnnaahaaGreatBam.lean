import Derived.Test.YtdcidlgmnnaahaaGreatBal
/- What queue.trees tells: a stack of records. -/
namespace Go.Proofs.YtdcidlgmnnaahaaGreat.Qw
open Go.RowKit Go.Shelf Go.Lib
attribute [local go_sem] Oper.semAt_some
/-- The stack S tells out: its last one, which leaves those behind it. -/
def Ot (w : World) (B : Nat → Prop) : List Rec → List Rec → Prop
  | [], S => S = []
  | x :: out, S => ∃ S' ts, S = S' ++ [x] ∧ LC w B ts x.p ∧ Ot w B out (S' ++ ts)
theorem Ot.mv {F : Nat → Prop} {w V : World} {B : Nat → Prop} (m : Mv F w V) (hF : ∀ k, B k → ¬ F k) : ∀ (out S : List Rec), Ot w B out S → Ot V B out S
  | [], _, h => h
  | x :: out, S, h => by
    obtain ⟨S', ts, h1, h2, h3⟩ := h
    exact ⟨S', ts, h1, LC.mv m hF _ _ h2, Ot.mv m hF out _ h3⟩
theorem Ot.len {w : World} {B : Nat → Prop} : ∀ (out S : List Rec), Ot w B out S → S.length ≤ out.length
  | [], S, h => by
    have e : S = [] := h
    simp [e]
  | x :: out, S, h => by
    obtain ⟨S', ts, h1, _, h3⟩ := h
    have z := Ot.len out _ h3
    rw [List.length_append] at z
    rw [h1, List.length_append, List.length_cons]
    simp only [List.length_cons, List.length_nil]
    omega
theorem Ot.of {w : World} {B : Nat → Prop} : ∀ (N : Nat) (S : List Rec) (F : List (Tr El)), RF w B S F → (elsL F).length ≤ N → ∃ out, Ot w B out S ∧ (out.map fun x => (x.v, x.t)).Perm (elsL F) := by
  intro N
  induction N with
  | zero =>
    intro S F h hN
    cases F with
    | nil =>
      have : S = [] := List.eq_nil_of_length_eq_zero h.len
      exact ⟨[], this, List.Perm.nil⟩
    | cons y F => rw [elsL_cons] at hN; simp at hN
  | succ N ih =>
    intro S F h hN
    by_cases hF : F = []
    · subst hF
      have : S = [] := List.eq_nil_of_length_eq_zero h.len
      exact ⟨[], this, List.Perm.nil⟩
    · obtain ⟨F', y, rfl⟩ := snoc_of hF
      obtain ⟨S', b, rfl, h1, h2⟩ := h.split
      cases b with
      | nil => exact h2.elim
      | cons x b =>
        obtain ⟨⟨e1, e2, hk⟩, hb⟩ := h2
        have : b = [] := List.eq_nil_of_length_eq_zero (RF.len hb)
        subst this
        obtain ⟨ts, hc, ht⟩ := LR.chain _ _ hk
        have hp : (elsL (F' ++ [y])).Perm ((y.v, y.t) :: elsL (F' ++ y.k.toL)) := by
          rw [elsL_app, elsL_app, elsL_toL, elsL_cons, elsL_nil, List.append_nil]
          exact List.perm_middle
        obtain ⟨out, ho, hq⟩ := ih (S' ++ ts) (F' ++ y.k.toL) (h1.app ht) (by
          have := hp.length_eq
          rw [List.length_cons] at this
          omega)
        refine ⟨x :: out, ⟨S', ts, rfl, hc, ho⟩, ?_⟩
        rw [List.map_cons, e1, e2]
        exact (hq.cons _).trans hp.symm
theorem ptrV_inj {a b : Option Nat} (h : ptrV a = ptrV b) : a = b := by
  cases a <;> cases b <;> simp [ptrV] at h <;> simp [h]
theorem SV.ps {w : World} {v : Value} {S T : List Rec} (h : SV w v S) (k : SV w v T) : S.map (·.p) = T.map (·.p) := by
  rcases h with ⟨rfl, rfl⟩ | ⟨g, o, c, rfl, h⟩
  · rcases k with ⟨_, rfl⟩ | ⟨g, o, c, e, _⟩
    · rfl
    · cases e
  · rcases k with ⟨e, _⟩ | ⟨g', o', c', e, k⟩
    · cases e
    · injection e with e1 e2 e3
      injection e1 with e1
      injection e1 with e4 e5
      subst e4
      subst e5
      refine List.ext_getElem (by simp [e2]) fun j h1 h2 => ?_
      rw [List.length_map] at h1 h2
      have z1 := (h.ra.at (List.getElem?_eq_getElem h1)).2.2
      have z2 := (k.ra.at (List.getElem?_eq_getElem h2)).2.2
      rw [List.getElem_map, List.getElem_map]
      rw [z1] at z2
      injection z2 with z2
      exact ptrV_inj z2
theorem LC.ps {w : World} {B : Nat → Prop} : ∀ (S T : List Rec) (p : Option Nat), LC w B S p → LC w B T p → S.map (·.p) = T.map (·.p)
  | [], [], _, _, _ => rfl
  | [], _ :: _, _, h, k => by
    have e : _ = none := h
    obtain ⟨_, _, e2, _⟩ := k
    rw [e] at e2
    cases e2
  | _ :: _, [], _, h, k => by
    have e : _ = none := k
    obtain ⟨_, _, e2, _⟩ := h
    rw [e] at e2
    cases e2
  | x :: S, y :: T, p, h, k => by
    obtain ⟨b, pr, rfl, _, _, _, c2, c3, h⟩ := h
    obtain ⟨b', pr', e, _, _, _, d2, d3, k⟩ := k
    injection e with e
    subst e
    rw [c2] at d2
    rw [c3] at d3
    injection d2 with d2
    injection d3 with d3
    rw [← ptrV_inj d3] at k
    rw [List.map_cons, List.map_cons, LC.ps S T pr h k, ptrV_inj d2]
theorem Ot.one {w : World} {B : Nat → Prop} : ∀ (o1 o2 S T : List Rec), Ot w B o1 S → Ot w B o2 T → S.map (·.p) = T.map (·.p) → o1.length = o2.length
  | [], [], _, _, _, _, _ => rfl
  | [], _ :: _, S, T, h, k, e => by
    have e1 : S = [] := h
    obtain ⟨T', _, e2, _⟩ := k
    rw [e1, e2] at e
    simp at e
  | _ :: _, [], S, T, h, k, e => by
    have e1 : T = [] := k
    obtain ⟨S', _, e2, _⟩ := h
    rw [e1, e2] at e
    simp at e
  | x :: o1, y :: o2, S, T, h, k, e => by
    obtain ⟨S', ts, rfl, h1, h2⟩ := h
    obtain ⟨T', us, rfl, k1, k2⟩ := k
    rw [List.map_append, List.map_append] at e
    obtain ⟨e1, e2⟩ := List.append_inj' e rfl
    have e3 : x.p = y.p := by simpa using e2
    rw [← e3] at k1
    have z := Ot.one o1 o2 _ _ h2 k2 (by rw [List.map_append, List.map_append, e1, LC.ps ts us x.p h1 k1])
    rw [List.length_cons, List.length_cons, z]
/-- How many a slice will tell. -/
theorem Ot.mu (B : Nat → Prop) : ∃ mu : Value → World → Nat, ∀ v w S out, SV w v S → Ot w B out S → mu v w = out.length := by
  classical
  refine ⟨fun v w => if h : ∃ n, ∃ S out, SV w v S ∧ Ot w B out S ∧ out.length = n then h.choose else 0, fun v w S out h1 h2 => ?_⟩
  have hx : ∃ n, ∃ S out, SV w v S ∧ Ot w B out S ∧ out.length = n := ⟨_, S, out, h1, h2, rfl⟩
  show (if h : ∃ n, ∃ S out, SV w v S ∧ Ot w B out S ∧ out.length = n then h.choose else 0) = _
  rw [dif_pos hx]
  obtain ⟨S', out', k1, k2, k3⟩ := hx.choose_spec
  rw [← k3]
  exact Ot.one _ _ _ _ k2 h2 (k1.ps h1)
end Go.Proofs.YtdcidlgmnnaahaaGreat.Qw
/- queue.trees as a row. -/
namespace Go.Proofs.YtdcidlgmnnaahaaGreat.Qw
open Go.RowKit Go.Shelf Go.Lib
attribute [local go_sem] Oper.semAt_some
theorem allq_any (p : Option Nat) (w : World) : Calls Tryz.prog 64 #[ptrV p] w fun e V => e = .returned (.func (.func 81) #[] #[.pointer (some ⟨w.heap.size, 0, none⟩)]) ∧ V = w.alloc (.cells #[ptrV p] 92) := by
  go_enter Tryz.func64, Tryz.ntmps64
  go_wp2_with fail
  go_ret
  exact ⟨rfl, rfl⟩
set_option maxRecDepth 100000 in
set_option maxHeartbeats 4000000 in
theorem trees_row (q bl : Nat) (v : Value) (xs out : List Rec) (B E : Nat → Prop) (W : World) (cb : W.cell? ⟨bl, 0, none⟩ = some (qp q)) (cq : W.cell? ⟨q, 1, none⟩ = some v) (sv : SV W v xs) (ho : Ot W B out xs) (eb : ¬ E bl) (eq : ¬ E q) (ev : ∀ k, nbk v = some k → ¬ E k) (hE : ∀ k, B k → ¬ E k) (lo : ∀ k, B k → k < W.heap.size) (hl : out.length ≤ 200000) :
    Row Tryz.prog 71 #[.pointer (some ⟨bl, 0, none⟩)] encR out E W := by
  intro u J Jx E1 V m gr hJ hJx hY h0
  have d1 := m.cell (a := ⟨bl, 0, none⟩) eb cb
  have d2 := m.cell (a := ⟨q, 1, none⟩) eq cq
  have svV := sv.mv m ev
  have hoV := Ot.mv m hE _ _ ho
  have hE1 : Hid (∀ k, B k → ¬ E1 k) := fun k hk => gr.free (lo k hk) (hE k hk)
  have loV : Hid (∀ k, B k → k < V.heap.size) := fun k hk => Nat.lt_of_lt_of_le (lo k hk) m.size
  have hYH := hidP hY
  have hJH := hidP hJ
  have lJ := hJ.low _ _ _ h0
  have hcl : Hid (Calls Tryz.prog 72 #[v] V fun e V1 => ∃ v1, e = .returned v1 ∧ SV V1 v1 xs ∧ Ot V1 B out xs ∧ J out E1 V1 ∧ (∀ k, nbk v1 = some k → V.heap.size ≤ k ∧ ¬ E1 k) ∧ Mv E1 V V1) := by
    refine (clone_any svV (by have := Ot.len _ _ hoV; omega)).mono ?_
    rintro e V1 ⟨v1, rfl, s1, f1, b1⟩
    exact ⟨v1, rfl, s1, Ot.mv (F := fun _ => False) (Mv.below b1) (fun _ _ h => h) _ _ hoV, hJ.keep _ _ _ _ h0 (Mv.below b1), fun k hk => ⟨f1 k hk, fun e => by have := lJ k e; have := f1 k hk; omega⟩, Mv.below b1⟩
  obtain ⟨mu, hmu⟩ := Ot.mu B
  have hmuH := hidP hmu
  clear hmu cb cq sv ho eb eq ev hE lo hY hJ lJ svV hoV h0 m gr
  unfold qp at d1
  refine (callsIn_wide (n := 5)).1 ?_
  refine callsIn_of_wp Tryz.func71 rfl trivial ?_ rfl
  simp only [Tryz.ntmps71, List.size_toArray, List.length_cons, List.length_nil, Nat.reduceAdd, Nat.reduceSub, Array.replicate_succ, Array.replicate_zero, List.push_toArray, List.append_toArray, List.nil_append, List.cons_append]
  gi_wp2_with fail
  refine ⟨trivial, (callsIn_wide.2 hcl.out).mono ?_⟩
  rintro e V1 ⟨v1, rfl, s1, o1, j1, f1, m1⟩
  have s1H := hidP s1
  have o1H := hidP o1
  have j1H := hidP j1
  have f1H := hidP f1
  have m1H := hidP m1
  clear s1 o1 j1 f1 m1 hcl d1 d2
  gi_wp2_with fail
  gi_loopw [3] (fun lv wr => ∃ (rest S : List Rec) (E2 : Nat → Prop), rest.length ≤ 200000 ∧ Hid (SV wr lv S) ∧ Hid (Ot wr B rest S) ∧ Hid (J rest E2 wr) ∧ Hid (∀ k, nbk lv = some k → V.heap.size ≤ k ∧ ¬ E2 k) ∧ Hid (Mv E1 V wr) ∧ Hid (Gr E1 V E2)) (fun lv wr => mu lv wr)
  case atStart => exact ⟨out, xs, E1, hl, s1H, o1H, j1H, f1H, m1H, Gr.refl _ _⟩
  case round =>
    obtain ⟨rest, S, E2, hrl, hs, hot, hj, hf, hm, hg⟩ := hrel
    clear s1H o1H j1H f1H m1H
    cases rest with
    | nil =>
      obtain rfl : S = [] := hot.out
      obtain ⟨p, c, rfl⟩ := hs.out.shape
      gi_wp2_with fail
      go_end0
      exact ⟨⟨_, rfl⟩, hm.out, .inl ⟨E2, hg.out, hj.out⟩⟩
    | cons x rest =>
      have hk0 : Hid (_ = (x :: rest).length) := hmuH.out _ _ _ _ hs.out hot.out
      have hSl := Ot.len _ _ hot.out
      obtain ⟨S', ts, rfl, hc, ho'⟩ := hot.out
      rcases hs.out with ⟨_, e⟩ | ⟨g, o, c, rfl, hrs⟩
      · simp at e
      obtain ⟨n, hn⟩ : ∃ n, S'.length = n := ⟨_, rfl⟩
      have len1 : (S' ++ [x]).length = n + 1 := by simp [hn]
      have u0 := hrs.ra.at (j := n) (x := x) (by rw [← hn]; simp)
      obtain ⟨N, hN⟩ : ∃ N, wr.heap.size = N := ⟨_, rfl⟩
      obtain ⟨W1, hW1⟩ : ∃ W1, wr.alloc (.cells #[vc0 x.v, vc1 x.v, vc2 x.v, vc3 x.v, vc4 x.v, vc5 x.v, .int .i64 x.t, ptrV x.p] 94) = W1 := ⟨_, rfl⟩
      have b1 : Below wr.heap.size wr W1 := by rw [← hW1]; exact (Below.refl _ _).alloc (Nat.le_refl _) _
      have hN1 : W1.heap.size = N + 1 := by rw [← hW1]; simp [hN]
      have bx : ∀ j u, #[vc0 x.v, vc1 x.v, vc2 x.v, vc3 x.v, vc4 x.v, vc5 x.v, .int .i64 x.t, ptrV x.p][j]? = some u → W1.cell? ⟨N, j, none⟩ = some u := fun j u hj => by rw [← hW1]; exact cell_at hN hj
      obtain ⟨W2, hW2⟩ : ∃ W2, W1.drew.alloc (.cells #[ptrV x.p] 92) = W2 := ⟨_, rfl⟩
      have b2 : Below W1.heap.size W1 W2 := by rw [← hW2]; exact (Below.refl _ _).drew.alloc (Nat.le_refl _) _
      have b02 : Below wr.heap.size wr W2 := b1.trans (b2.mono b1.size)
      have hall : Hid (Calls Tryz.prog 64 #[ptrV x.p] W1.drew fun e V => e = .returned (.func (.func 81) #[] #[.pointer (some ⟨N + 1, 0, none⟩)]) ∧ V = W2) := by
        have := allq_any x.p W1.drew
        rw [hW2, show W1.drew.heap.size = N + 1 from hN1] at this
        exact this
      have hgf := hf.out g rfl
      have lg : g < N := by rw [← hN]; exact hrs.rm.lt
      have svW : SV W2 (slv g o n c) S' := by
        have r : SV wr (slv g o n c) S' := .inr ⟨g, o, c, by rw [hn], by have := hrs.le; rw [len1] at this; omega, hrs.rm, ((RA.app (xs := S') (ys := [x])).1 hrs.ra).1⟩
        exact r.mv (F := fun _ => False) (Mv.below b02) (fun _ _ h => h)
      have szV := hm.out.size
      have szB : ∀ k, B k → k < N := fun k hk => by have := loV.out k hk; omega
      have lts : ts.length ≤ rest.length := by have := Ot.len _ _ ho'; rw [List.length_append] at this; omega
      have h2s : W2.heap.size = N + 2 := by rw [← hW2]; simp [hN1]
      have hS1 : W2.cell? ⟨N, 7, none⟩ = some (ptrV x.p) := bcell b2 (by omega) (bx 7 _ rfl)
      have happ : Hid (Calls Tryz.prog 73 #[.slice (some ⟨g, o, none⟩) n c, .func (.func 81) #[] #[.pointer (some ⟨N + 1, 0, none⟩)]] W2 fun e V3 => ∃ p3 n3 c3, e = .returned (.slice p3 n3 c3) ∧ V3.cell? ⟨N, 7, none⟩ = some (ptrV x.p) ∧ (∀ j u, #[vc0 x.v, vc1 x.v, vc2 x.v, vc3 x.v, vc4 x.v, vc5 x.v, .int .i64 x.t, ptrV x.p][j]? = some u → V3.cell? ⟨N, j, none⟩ = some u) ∧ SV V3 (.slice p3 n3 c3) (S' ++ ts) ∧ Ot V3 B rest (S' ++ ts) ∧ J (x :: rest) E2 V3 ∧ (∀ k, nbk (.slice p3 n3 c3) = some k → V.heap.size ≤ k ∧ ¬ E2 k) ∧ Mv E1 V V3) := by
        have hB2 : ∀ k, B k → ¬ E2 k := fun k hk e => by
          rcases hg.out k e with s | s
          · exact hE1.out k hk s
          · have := loV.out k hk; omega
        refine (appendseq_any S' ts (slv g o n c) x.p (N + 1) B W2 svW (by rw [← hW2]; exact cell_at hN1 rfl) (fun e => by injection e with e; have e' : g = N + 1 := e; omega) (LC.mv (F := fun _ => False) (Mv.below b02) (fun _ _ h => h) _ _ hc) (fun k hk e => by injection e with e; have e' : g = k := e; have := loV.out k hk; omega) (fun k hk => by have := szB k hk; omega) (by simp only [List.length_cons] at hrl; rw [List.length_append] at hSl; simp only [List.length_cons, List.length_nil] at hSl; omega)).mono ?_
        rintro e V3 ⟨v3, rfl, s3, m3, at3⟩
        obtain ⟨p3, c3, rfl⟩ := s3.shape
        have lJ := hJH.out.low _ _ _ hj.out
        have hg0 : ∀ k, nbk (slv g o n c) = some k → k = g := fun k hk => by injection hk with hk; exact hk.symm
        have nBs : ∀ k, B k → ¬ nbk (slv g o n c) = some k := fun k hk e => by have := hg0 k e; have := loV.out k hk; omega
        have nN : ¬ nbk (slv g o n c) = some N := fun e => by have := hg0 N e; omega
        have cN : ∀ j u, #[vc0 x.v, vc1 x.v, vc2 x.v, vc3 x.v, vc4 x.v, vc5 x.v, .int .i64 x.t, ptrV x.p][j]? = some u → V3.cell? ⟨N, j, none⟩ = some u := fun j u hj => m3.cell (a := ⟨N, j, none⟩) nN (bcell b2 (by omega) (bx j u hj))
        refine ⟨p3, _, c3, rfl, cN 7 _ rfl, cN, s3, Ot.mv m3 nBs _ _ (Ot.mv (F := fun _ => False) (Mv.below b02) (fun _ _ h => h) _ _ ho'), hJH.out.keep _ _ _ _ hj.out ((Mv.below b02).trans' (m3.mono fun k _ e => by rw [hg0 k e]; exact ⟨hgf.2, hgf.1⟩)), fun k hk => ?_, (hm.out.trans' (Mv.below b02)).trans (E' := fun k => nbk (slv g o n c) = some k) (fun k e => .inr (by rw [hg0 k e]; exact hgf.1)) m3⟩
        rcases at3 with z | ⟨k', z, hk'⟩
        · rw [hk] at z
          rw [hg0 k z.symm]
          exact hgf
        · rw [hk] at z
          injection z with z
          exact ⟨by omega, fun e => by have := lJ k e; omega⟩
      have hrlI : (n : Int) + 1 ≤ 200000 := by rw [len1] at hSl; omega
      have hnc : n + 1 ≤ c := by have := hrs.le; rw [len1] at this; exact this
      have hc0 : ¬ c = 0 := by omega
      have hwn : IntKind.i64.wrap (n : Int) = (n : Int) := by rw [IntKind.wrap_i64]; omega
      have hcI : (n : Int) ≤ (c : Int) := by omega
      have hS0 : W1.drew.cell? ⟨N, 7, none⟩ = some (ptrV x.p) := bx 7 _ rfl
      have hNH := hidP hN
      rw [len1] at hk0
      have len1H := hidP len1
      have hrl2 : rest.length ≤ 200000 := by rw [List.length_cons] at hrl; omega
      clear hrs svW szV szB lts hc ho' hot hs hj hf b1 b2 b02 hgf lg bx hSl len1 hrl
      unfold slv at *
      gi_wp2_with (first | rw [hW1])
      refine wpIn_wide.2 ?_
      refine Zs.region (S := fun W => W.cell? ⟨N, 7, none⟩ = some (ptrV x.p)) 9 (by kernel_rfl) ?_
      refine Zs.pure (i := 0) (oi := ⟨some 19, _, _, _, _, _⟩) (v := ?v0) rfl (by kernel_rfl) (by kernel_rfl) (by kernel_rfl) (by decide) (fun _ _ _ h => h) (Or.inl ⟨by rfl, ?hy0⟩) hS0 ?_
      case hy0 => (intro w hSw; (try dsimp only at hSw); go_simp; try with_reducible rfl)
      simp only [Act.put, List.setIfInBounds_toArray, List.set_cons_zero, List.set_cons_succ]
      refine Zs.pure (i := 1) (oi := ⟨some 20, _, _, _, _, _⟩) (v := ?v1) rfl (by kernel_rfl) (by kernel_rfl) (by kernel_rfl) (by decide) (fun _ _ _ h => h) (Or.inl ⟨by rfl, ?hy1⟩) hS0 ?_
      case hy1 => (intro w hSw; (try dsimp only at hSw); go_simp; try with_reducible rfl)
      simp only [Act.put, List.setIfInBounds_toArray, List.set_cons_zero, List.set_cons_succ]
      refine Zs.pure (i := 2) (oi := ⟨some 21, _, _, _, _, _⟩) (v := ?v2) rfl (by kernel_rfl) (by kernel_rfl) (by kernel_rfl) (by decide) (fun _ _ _ h => h) (Or.inl ⟨by rfl, ?hy2⟩) hS0 ?_
      case hy2 => (intro w hSw; (try dsimp only at hSw); go_simp; try with_reducible rfl)
      simp only [Act.put, List.setIfInBounds_toArray, List.set_cons_zero, List.set_cons_succ]
      refine Zs.pure (i := 3) (oi := ⟨some 22, _, _, _, _, _⟩) (v := ?v3) rfl (by kernel_rfl) (by kernel_rfl) (by kernel_rfl) (by decide) (fun _ _ _ h => h) (Or.inl ⟨by rfl, ?hy3⟩) hS0 ?_
      case hy3 => (intro w hSw; (try dsimp only at hSw); go_simp; try with_reducible rfl)
      simp only [Act.put, List.setIfInBounds_toArray, List.set_cons_zero, List.set_cons_succ]
      refine Zs.pure (i := 4) (oi := ⟨some 23, _, _, _, _, _⟩) (v := .slice (some ⟨g, o, none⟩) n c) rfl (by kernel_rfl) (by kernel_rfl) (by kernel_rfl) (by decide) (fun _ _ _ h => h) (Or.inl ⟨by rfl, ?hy4⟩) hS0 ?_
      case hy4 => (intro w hSw; (try dsimp only at hSw); go_simp; try with_reducible rfl)
      simp only [Act.put, List.setIfInBounds_toArray, List.set_cons_zero, List.set_cons_succ]
      refine Zs.pure (i := 5) (oi := ⟨some 24, _, _, _, _, _⟩) (v := ?v5) rfl (by kernel_rfl) (by kernel_rfl) (by kernel_rfl) (by decide) (fun _ _ _ h => h) (Or.inl ⟨by rfl, ?hy5⟩) hS0 ?_
      case hy5 => (intro w hSw; (try dsimp only at hSw); go_simp; try with_reducible rfl)
      simp only [Act.put, List.setIfInBounds_toArray, List.set_cons_zero, List.set_cons_succ]
      refine Zs.take (i := 6) (oi := ⟨some 25, _, _, _, _, _⟩) (v := ptrV x.p) rfl (by kernel_rfl) (by kernel_rfl) (by kernel_rfl) (by decide) (by kernel_rfl) (by kernel_rfl) (fun _ _ _ h => h) (Or.inl ⟨by rfl, ?hy6⟩) hS0 ?_
      case hy6 => (intro w hSw; (try dsimp only at hSw); go_simp; try with_reducible rfl)
      simp only [Act.put, List.setIfInBounds_toArray, List.set_cons_zero, List.set_cons_succ]
      refine Zs.one (i := 7) (oi := ⟨some 26, _, _, _, _, _⟩) (by kernel_rfl) rfl (fun K hK => ?_)
      go_simp
      refine hall.out.mono ?_
      rintro e W2' ⟨rfl, rfl⟩
      go_wp2_with fail
      refine hK.out _ _ (fun _ => hS1) ?_
      clear hK K hall
      try simp only [Act.put, List.setIfInBounds_toArray, List.set_cons_zero, List.set_cons_succ]
      refine Zs.one (i := 8) (oi := ⟨some 27, _, _, _, _, _⟩) (by kernel_rfl) rfl (fun K hK => ?_)
      go_simp
      refine happ.out.mono ?_
      rintro e V3 ⟨p3, n3, c3, rfl, hS3, cN, h3⟩
      have h3H := hidP h3
      clear h3 happ
      go_wp2_with fail
      refine hK.out _ _ (fun _ => hS3) ?_
      clear hK K
      try simp only [Act.put, List.setIfInBounds_toArray, List.set_cons_zero, List.set_cons_succ]
      refine Zs.one (i := 9) (oi := ⟨some 3, _, _, _, _, _⟩) (by kernel_rfl) rfl (fun K hK => ?_)
      go_simp
      refine hK.out _ _ (fun q => absurd q (by decide)) ?_
      clear hK K
      try simp only [Act.put, List.setIfInBounds_toArray, List.set_cons_zero, List.set_cons_succ]
      refine Zs.done (by kernel_rfl) ?_ _
      obtain ⟨s3, o3, j3, f3, m3⟩ := h3H.out
      obtain ⟨fn, tmps, assign, body, hy, hR⟩ := hYH.out x rest E2 V3 j3
      dsimp only [encR, Rec.val] at hy
      have cc : (V3.cell? ⟨N, 0, none⟩ = some (vc0 x.v) ∧ V3.cell? ⟨N, 1, none⟩ = some (vc1 x.v) ∧ V3.cell? ⟨N, 2, none⟩ = some (vc2 x.v) ∧ V3.cell? ⟨N, 3, none⟩ = some (vc3 x.v) ∧ V3.cell? ⟨N, 4, none⟩ = some (vc4 x.v) ∧ V3.cell? ⟨N, 5, none⟩ = some (vc5 x.v)) := ⟨cN 0 _ rfl, cN 1 _ rfl, cN 2 _ rfl, cN 3 _ rfl, cN 4 _ rfl, cN 5 _ rfl⟩
      have cc1 := cN 6 _ rfl
      have cc2 := cN 7 _ rfl
      have hRH := hidP hR
      clear s3 o3 j3 f3 m3 hR cN hS0 hS1 hS3 hW1 hW2 hN1 h2s u0
      gi_wp2
      refine (wide_round' hRH.out).mono ?_
      obtain ⟨s3, o3, j3, f3, m3⟩ := h3H.out
      rintro e W4 ⟨m4, (⟨rfl, E3, g3, hj3⟩ | ⟨rfl, E3, g3, hj3⟩)⟩
      · have hB2 : ∀ k, B k → ¬ E2 k := fun k hk e => by
          rcases hg.out k e with s | s
          · exact hE1.out k hk s
          · have := loV.out k hk; omega
        have s4 := s3.mv m4 (fun k hk => (f3 k hk).2)
        have o4 := Ot.mv m4 hB2 _ _ o3
        have f4 : ∀ k, nbk (.slice p3 n3 c3) = some k → V.heap.size ≤ k ∧ ¬ E3 k := fun k hk => ⟨(f3 k hk).1, fun e => by
          rcases g3 k e with z | z
          · exact (f3 k hk).2 z
          · have := s3.lt hk; omega⟩
        have m5 := m3.trans hg.out m4
        have g5 := hg.out.trans m3.size g3
        have hmu4 := hmuH.out _ _ _ _ s4 o4
        have fin := hidP (⟨⟨rest, S' ++ ts, E3, by omega, s4, o4, hj3, f4, m5, g5⟩, by have := hk0.out; rw [List.length_cons] at this; rw [hmu4]; omega⟩ : (∃ (rest S : List Rec) (E2 : Nat → Prop), rest.length ≤ 200000 ∧ Hid (SV W4 (.slice p3 n3 c3) S) ∧ Hid (Ot W4 B rest S) ∧ Hid (J rest E2 W4) ∧ Hid (∀ k, nbk (.slice p3 n3 c3) = some k → V.heap.size ≤ k ∧ ¬ E2 k) ∧ Hid (Mv E1 V W4) ∧ Hid (Gr E1 V E2)) ∧ mu (.slice p3 n3 c3) W4 < mu (.slice (some ⟨g, o, none⟩) (n + 1) c) wr)
        clear s3 o3 j3 f3 m3 m4 g3 hj3 s4 o4 f4 m5 g5 hmu4 hB2 cc cc1 cc2 hy h3H
        gi_wp2
        rw [len1H.out]
        exact fin.out
      · have fin := hidP (⟨⟨_, rfl⟩, m3.trans hg.out m4, .inr ⟨E3, hg.out.trans m3.size g3, hj3⟩⟩ : Went J Jx E1 V (.returned (.tuple #[])) W4)
        clear s3 o3 j3 f3 m3 m4 g3 hj3 cc cc1 cc2 hy h3H
        gi_wp2
        refine bodyPost_ret (results_none rfl _ _ _) rfl ?_
        exact fin.out
end Go.Proofs.YtdcidlgmnnaahaaGreat.Qw
/- Drop. -/
namespace Go.Proofs.YtdcidlgmnnaahaaGreat.Qw
open Go.RowKit Go.Shelf Go.Lib
attribute [local go_sem] Oper.semAt_some
/-- How far Drop has come: what is kept. -/
def KI (p : El → Bool) (out : List Rec) (sb bm br : Nat) (mv rv : Value) (w0 : World) (rest : List Rec) (E : Nat → Prop) (W : World) : Prop :=
  ∃ kv kept done, done ++ rest = out ∧ kept.map (fun x => (x.v, x.t)) = (done.map fun x => (x.v, x.t)).filter (fun y => !p y.1) ∧ (∀ x ∈ kept, x.p = none) ∧ (∀ k, E k ↔ (k = sb ∨ nbk kv = some k)) ∧ Cl sb kv W ∧ SV W kv kept ∧ nbk kv ≠ some sb ∧ (∀ k, nbk kv = some k → w0.heap.size < k) ∧ W.cell? ⟨bm, 0, none⟩ = some mv ∧ W.cell? ⟨br, 0, none⟩ = some rv
theorem KI.ter {p : El → Bool} {out : List Rec} {sb bm br : Nat} {mv rv : Value} {w0 : World} {B : Nat} (h1 : bm < B) (h2 : br < B) : Ter B (KI p out sb bm br mv rv w0) :=
  ⟨fun s E W V h m => by
    obtain ⟨kv, kept, done, a1, a2, a3, a4, a5, a6, a7, a8, a9, a10⟩ := h
    exact ⟨kv, kept, done, a1, a2, a3, a4, a5.mv m (fun f => f.1 ((a4 sb).2 (.inl rfl))), a6.mv m (fun k hk f => f.1 ((a4 k).2 (.inr hk))), a7, a8, m.cell (a := ⟨bm, 0, none⟩) (fun f => by have := f.2; dsimp only at this; omega) a9, m.cell (a := ⟨br, 0, none⟩) (fun f => by have := f.2; dsimp only at this; omega) a10⟩, fun s E W h k hk => by
    obtain ⟨kv, kept, done, a1, a2, a3, a4, a5, a6, _⟩ := h
    rcases (a4 k).1 hk with rfl | hk
    · exact a5.lt
    · exact a6.lt hk⟩
set_option maxRecDepth 100000 in
set_option maxHeartbeats 1000000 in
theorem treesf_any (q : Nat) (w : World) : Calls Tryz.prog 54 #[qp q] w fun e V => e = .returned (.func (.func 71) #[] #[.pointer (some ⟨w.heap.size, 0, none⟩)]) ∧ V = w.alloc (.cells #[qp q] 58) := by
  unfold qp
  go_enter Tryz.func54, Tryz.ntmps54
  go_wp2_with fail
  go_ret
  exact ⟨rfl, rfl⟩
def nilT (kept : List Rec) : List (Tr El) := kept.map fun x => ⟨x.v, x.t, .nil⟩
theorem RF.nils {w : World} {B : Nat → Prop} : ∀ kept : List Rec, (∀ x ∈ kept, x.p = none) → RF w B kept (nilT kept)
  | [], _ => trivial
  | x :: kept, h => ⟨⟨rfl, rfl, h x (List.mem_cons_self ..)⟩, RF.nils kept fun y hy => h y (List.mem_cons_of_mem _ hy)⟩
theorem nilT_k {kept : List Rec} : ∀ x ∈ nilT kept, x.k = .nil := fun x hx => by
  obtain ⟨y, _, rfl⟩ := List.mem_map.1 hx
  rfl
theorem nilT_map (kept : List Rec) : (nilT kept).map (fun x => (x.v, x.t)) = kept.map fun x => (x.v, x.t) := by
  unfold nilT
  rw [List.map_map]; rfl
theorem elsL_nils : ∀ T : List (Tr El), (∀ x ∈ T, x.k = .nil) → elsL T = T.map fun x => (x.v, x.t)
  | [], _ => rfl
  | y :: T, h => by
    rw [elsL_cons, h y (List.mem_cons_self ..), elsL_nils T (fun z hz => h z (List.mem_cons_of_mem _ hz))]; rfl
theorem drop_QI {key : El → Int} {p : El → Bool} {F F' : List (Tr El)} {L' : List (El × Int)} {n : Int} {kept : List Rec} (a2 : QI key F L' n) (hk : (kept.map fun x => (x.v, x.t)).Perm (L'.filter fun y => !p y.1)) (fp : F'.Perm (leastL key (nilT kept).length (nilT kept))) (fs : F'.Pairwise fun a b => a.t ≤ b.t) : QI key F' (L'.filter fun y => !p y.1) n := by
  have so := a2.so.filter (fun y => !p y.1)
  obtain ⟨m2, h2⟩ := leastL_fl key (nilT kept).length (nilT kept) (by omega) (fun z hz => by rw [nilT_k z hz]; trivial)
  have hl : ((nilT kept).map fun x => (x.v, x.t)).Perm (L'.filter fun y => !p y.1) := by rw [nilT_map]; exact hk
  have hp2 : (elsL F').Perm (L'.filter fun y => !p y.1) := (elsL_perm fp).trans ((leastL_els _ _ _).trans (by rw [elsL_nils _ nilT_k]; exact hl))
  exact QI.anew (N := (nilT kept).length) (by omega) nilT_k fp (strict_of hp2 so (h2.sub fun z hz => fp.mem_iff.1 hz) fs) hl so (fun y hy => a2.lt y ((List.mem_filter.1 hy).1))
set_option maxRecDepth 100000 in
set_option maxHeartbeats 4000000 in
theorem drop_any {nb : NB} {key : El → Int} {w : World} {q : Nat} {E B : Nat → Prop} {L : List El} {n : Nat} (hB : L ≠ [] → Bf nb key) (h : Qu nb key w q E B L n) {mf br : Nat} {rv : Value} {p : El → Bool} (cr : w.cell? ⟨br, 0, none⟩ = some rv) (eg : ∀ args w, (callFunc mf args).run Tryz.prog w = .ok (.enter mf args) w) (hM : ∀ x W, W.cell? ⟨br, 0, none⟩ = some rv → Calls Tryz.prog mf #[ev x, .pointer (some ⟨br, 0, none⟩)] W fun e V => e = .returned (.bool (p x)) ∧ Below W.heap.size W V) :
    Calls Tryz.prog 34 #[qp q, .func (.func mf) #[] #[.pointer (some ⟨br, 0, none⟩)]] w fun e V => e = .returned (.int .i64 ((L.length : Int) - (L.filter fun x => !p x).length)) ∧ Qg nb key w q E B (L.filter fun x => !p x) n V := by
  have hq0 := hidP h
  obtain ⟨v, xs, F, L', a1, a2, a3, a4, a5, a6⟩ := h
  obtain ⟨out, ho, hpm⟩ := Ot.of _ _ _ a1.rf (Nat.le_refl _)
  obtain ⟨bm, hbm⟩ : ∃ bm, w.heap.size = bm := ⟨_, rfl⟩
  obtain ⟨W1, hW1⟩ : ∃ W1, w.alloc (.cells #[.func (.func mf) #[] #[.pointer (some ⟨br, 0, none⟩)]] 77) = W1 := ⟨_, rfl⟩
  have b1 : Below w.heap.size w W1 := by rw [← hW1]; exact (Below.refl _ _).alloc (Nat.le_refl _) _
  have h1s : W1.heap.size = bm + 1 := by rw [← hW1]; simp [hbm]
  obtain ⟨W2, hW2⟩ : ∃ W2, W1.alloc (.cells #[.slice none 0 0] 52) = W2 := ⟨_, rfl⟩
  have b2 : Below W1.heap.size W1 W2 := by rw [← hW2]; exact (Below.refl _ _).alloc (Nat.le_refl _) _
  have h2s : W2.heap.size = bm + 2 := by rw [← hW2]; simp [h1s]
  obtain ⟨W3, hW3⟩ : ∃ W3, W2.alloc (.cells #[qp q] 58) = W3 := ⟨_, rfl⟩
  have b3 : Below W2.heap.size W2 W3 := by rw [← hW3]; exact (Below.refl _ _).alloc (Nat.le_refl _) _
  have h3s : W3.heap.size = bm + 3 := by rw [← hW3]; simp [h2s]
  have b03 : Below w.heap.size w W3 := (b1.trans (b2.mono b1.size)).trans (b3.mono (Nat.le_trans b1.size b2.size))
  have Q3 := a1.below b03
  have c3 : W3.cell? ⟨bm + 2, 0, none⟩ = some (qp q) := by rw [← hW3]; exact cell_at h2s rfl
  have clk : Cl (bm + 1) (.slice none 0 0) W3 := Cl.mv (E := fun _ => False) ⟨by rw [← hW2]; exact cell_at h1s rfl, by rw [← hW2]; exact froz_new h1s⟩ (Mv.below b3) (fun h => h)
  have cm : W3.cell? ⟨bm, 0, none⟩ = some (.func (.func mf) #[] #[.pointer (some ⟨br, 0, none⟩)]) := bcell b3 (by omega) (bcell b2 (by omega) (by rw [← hW1]; exact cell_at hbm rfl))
  have lbr : br < bm := by rw [← hbm]; exact cell_lt cr
  have cr3 : W3.cell? ⟨br, 0, none⟩ = some rv := bcell b03 (by omega) cr
  have hol : out.length = L.length := by
    have := hpm.length_eq
    rw [List.length_map] at this
    rw [this, a2.pm.length_eq, ← a3, List.length_map]
  have ho3 := Ot.mv (F := fun _ => False) (Mv.below b03) (fun _ _ h => h) _ _ ho
  have lq : q < bm := by rw [← hbm]; exact a1.lt
  have hlv : ∀ k, nbk v = some k → k < bm := fun k hk => by rw [← hbm]; exact a1.sv.lt hk
  have row := hidP (trees_row q (bm + 2) v xs out B (fun k => k = bm + 1) W3 c3 Q3.c1 Q3.sv ho3 (by omega) (by omega) (fun k hk e => by have := hlv k hk; omega) (fun k hk e => by have := a1.lo k hk; omega) (fun k hk => by have := a1.lo k hk; omega) (by omega))
  have tI : Ter W3.heap.size (KI p out (bm + 1) bm br (.func (.func mf) #[] #[.pointer (some ⟨br, 0, none⟩)]) rv w) := KI.ter (by omega) (by omega)
  have hI : Hid (KI p out (bm + 1) bm br (.func (.func mf) #[] #[.pointer (some ⟨br, 0, none⟩)]) rv w out (fun k => k = bm + 1) W3) := ⟨.slice none 0 0, [], [], rfl, rfl, (fun _ h => by cases h), (fun k => ⟨.inl, fun h => h.elim id (fun e => by cases e)⟩), clk, .inl ⟨rfl, rfl⟩, (fun e => by cases e), (fun k e => by cases e), cm, cr3⟩
  have hTf : Hid (Calls Tryz.prog 54 #[qp q] W2 fun e V => e = .returned (.func (.func 71) #[] #[.pointer (some ⟨bm + 2, 0, none⟩)]) ∧ V = W3) := by
    have := treesf_any q W2
    rw [hW3, h2s] at this
    exact this
  have hMH := hidP hM
  unfold qp at *
  refine (callsIn_wide (n := 5)).1 ?_
  refine callsIn_of_wp_marks Tryz.func34 rfl trivial ?_ rfl
  simp only [Tryz.ntmps34, List.size_toArray, List.length_cons, List.length_nil, Nat.reduceAdd, Nat.reduceSub, Array.replicate_succ, Array.replicate_zero, List.push_toArray, List.append_toArray, List.nil_append, List.cons_append]
  gi_wp2_with (first | rw [hW1] | rw [hW2])
  refine ⟨trivial, (callsIn_wide.2 hTf.out).mono ?_⟩
  rintro e V ⟨rfl, rfl⟩
  gi_wp2_with fail
  refine loop_out (gf := 71) (lb := #[.pointer (some ⟨bm + 2, 0, none⟩)]) rfl (enters_of Tryz.func71 (by kernel_rfl) rfl) row.out (fun _ => rfl) (KI p out (bm + 1) bm br (.func (.func mf) #[] #[.pointer (some ⟨br, 0, none⟩)]) rv w) AX tI (AX.ter _) hI.out ?round ?done ?stop
  case round =>
    rintro l9 hl9 x rest E2 U hi hm hg hEl hrec
    have hltH : Hid (l9 < U.heap.size) := by obtain ⟨r, hr⟩ := hrec; exact (Array.getElem?_eq_some_iff.1 hr).1
    clear hrec
    simp only [encR, Rec.val]
    gi_wp2_with fail
    refine ⟨⟨Mv.alloc _ _ _, Below.heap_alloc _ _ _ hltH.out⟩, fun U2 tw => ?_⟩
    obtain ⟨hi2, hm2⟩ := tw.go tI hi (Mv.alloc _ _ _) hm (Nat.le_refl _) hl9 hEl
    have bx : ∀ j u, #[vc0 x.v, vc1 x.v, vc2 x.v, vc3 x.v, vc4 x.v, vc5 x.v, Value.int .i64 x.t, ptrV x.p][j]? = some u → U2.cell? ⟨U.heap.size, j, none⟩ = some u := fun j u hj => tw.mv.cell (a := ⟨U.heap.size, j, none⟩) (by have := hltH.out; show ¬ U.heap.size = l9; omega) (cell_at rfl hj)
    have hU2 : Hid (U2.heap.size = U.heap.size + 1) := by show _ = _; have := tw.size; simpa using this
    obtain ⟨kv, kept, done, e1, e2, e3, e4, e5, e6, e7, e8, e9, e10⟩ := hi2
    have x0 : (U2.cell? ⟨U.heap.size, 0, none⟩ = some (vc0 x.v) ∧ U2.cell? ⟨U.heap.size, 1, none⟩ = some (vc1 x.v) ∧ U2.cell? ⟨U.heap.size, 2, none⟩ = some (vc2 x.v) ∧ U2.cell? ⟨U.heap.size, 3, none⟩ = some (vc3 x.v) ∧ U2.cell? ⟨U.heap.size, 4, none⟩ = some (vc4 x.v) ∧ U2.cell? ⟨U.heap.size, 5, none⟩ = some (vc5 x.v)) := ⟨bx 0 _ rfl, bx 1 _ rfl, bx 2 _ rfl, bx 3 _ rfl, bx 4 _ rfl, bx 5 _ rfl⟩
    have hmt := hidP (hMH.out x.v U2 e10)
    gi_wp2_with fail
    refine ⟨trivial, (CallsIn.inRound l9 (callsIn_wide.2 hmt.out)).mono ?_⟩
    rintro e U3 ⟨rfl, hb3⟩
    have m3 : ∀ F, Mv F U2 U3 := fun F => Mv.below hb3
    have lU : U.heap.size < U2.heap.size := by have := hU2.out; omega
    have y0 : (U3.cell? ⟨U.heap.size, 0, none⟩ = some (vc0 x.v) ∧ U3.cell? ⟨U.heap.size, 1, none⟩ = some (vc1 x.v) ∧ U3.cell? ⟨U.heap.size, 2, none⟩ = some (vc2 x.v) ∧ U3.cell? ⟨U.heap.size, 3, none⟩ = some (vc3 x.v) ∧ U3.cell? ⟨U.heap.size, 4, none⟩ = some (vc4 x.v) ∧ U3.cell? ⟨U.heap.size, 5, none⟩ = some (vc5 x.v)) := ⟨bcell hb3 lU (bx 0 _ rfl), bcell hb3 lU (bx 1 _ rfl), bcell hb3 lU (bx 2 _ rfl), bcell hb3 lU (bx 3 _ rfl), bcell hb3 lU (bx 4 _ rfl), bcell hb3 lU (bx 5 _ rfl)⟩
    have y1 := bcell hb3 lU (bx 6 _ rfl)
    have f5 := e5.mv (m3 fun _ => False) (fun h => h)
    have f6 := e6.mv (m3 fun _ => False) (fun _ _ h => h)
    have f9 := (m3 fun _ => False).cell (a := ⟨bm, 0, none⟩) (fun h => h) e9
    have f10 := (m3 fun _ => False).cell (a := ⟨br, 0, none⟩) (fun h => h) e10
    have hsz : w.heap.size ≤ U3.heap.size := by have := hb3.size; have := f5.lt; omega
    cases hp : p x.v with
    | true =>
      have fin : Hid (Mv E2 U2 U3 ∧ ∃ E', Gr E2 U2 E' ∧ KI p out (bm + 1) bm br (.func (.func mf) #[] #[.pointer (some ⟨br, 0, none⟩)]) rv w rest E' U3) := by
        refine ⟨m3 _, E2, Gr.refl _ _, kv, kept, done ++ [x], by rw [List.append_assoc]; exact e1, ?_, e3, e4, f5, f6, e7, e8, f9, f10⟩
        rw [e2, List.map_append, List.filter_append]
        simp [hp]
      clear e1 e2 e3 e4 e5 e6 e7 e8 e9 e10 f5 f6 f9 f10 y0 y1 x0 bx m3 hm2 hi hm tw hmt
      gi_wp2_with fail
      exact fin.out
    | false =>
      obtain ⟨A, hA⟩ : ∃ A, U3.alloc (.cells #[vc0 x.v, vc1 x.v, vc2 x.v, vc3 x.v, vc4 x.v, vc5 x.v, .int .i64 x.t, .pointer none] 94) = A := ⟨_, rfl⟩
      have mA : ∀ F, Mv F U3 A := fun F => by rw [← hA]; exact Mv.alloc _ _ _
      have svA := f6.mv (mA fun _ => False) (fun _ _ h => h)
      have raA : RA A U3.heap.size 0 [⟨x.v, x.t, none⟩] := by
        intro j u hj
        rw [Nat.zero_add, ← hA]
        refine cell_at rfl ?_
        match j, hj with
        | 0, hj => exact hj
        | 1, hj => exact hj
        | 2, hj => exact hj
        | 3, hj => exact hj
        | 4, hj => exact hj
        | 5, hj => exact hj
        | 6, hj => exact hj
        | 7, hj => exact hj
        | j + 8, hj => simp [flat] at hj
      have hkl : kept.length ≤ 200000 := by
        have z := congrArg List.length e2
        rw [List.length_map] at z
        have z2 := List.length_filter_le (fun y : El × Int => !p y.1) (done.map fun x => (x.v, x.t))
        rw [List.length_map] at z2
        have z3 := congrArg List.length e1
        rw [List.length_append] at z3
        omega
      obtain ⟨v', A2, hrun, sv', m2, at2⟩ := svA.append raA (by omega) 1
      obtain ⟨A3, hA3⟩ : ∃ A3, A2.setCell ⟨bm + 1, 0, none⟩ v' = A3 := ⟨_, rfl⟩
      have n2 : ¬ nbk kv = some (bm + 1) := e7
      have cA2 := (f5.mv (mA fun _ => False) (fun h => h)).mv m2 n2
      have clA3 : Cl (bm + 1) v' A3 := by rw [← hA3]; exact cA2.set v'
      have mS : Mv (fun k => k = bm + 1) A2 A3 := by rw [← hA3]; exact Mv.set1 (E := fun k => k = bm + 1) rfl _
      have szA : A.heap.size = U3.heap.size + 1 := by rw [← hA]; simp
      have hnU : bm + 1 < U2.heap.size := e5.lt
      have sz3 := hb3.size
      have n3 : nbk v' ≠ some (bm + 1) := fun e => by
        rcases at2 with q | ⟨k, q, hk⟩
        · exact e7 (q ▸ e)
        · rw [e] at q; injection q with q; omega
      have nb9 : ∀ k, k < w.heap.size ∨ k = bm → ¬ nbk kv = some k ∧ ¬ k = bm + 1 := fun k hk => ⟨fun e => by
        rcases hk with hk | hk
        · have := e8 k e; omega
        · have := e8 k e; omega, by omega⟩
      have fin : Hid (Mv E2 U2 A3 ∧ ∃ E', Gr E2 U2 E' ∧ KI p out (bm + 1) bm br (.func (.func mf) #[] #[.pointer (some ⟨br, 0, none⟩)]) rv w rest E' A3) := by
        refine ⟨(((m3 E2).trans' ((mA E2).trans' (m2.mono fun k _ hk => (e4 k).2 (.inr hk)))).trans' (mS.mono fun k _ hk => (e4 k).2 (.inl hk))), fun k => k = bm + 1 ∨ nbk v' = some k, fun k hk => ?_, v', kept ++ [⟨x.v, x.t, none⟩], done ++ [x], by rw [List.append_assoc]; exact e1, ?_, ?_, fun _ => Iff.rfl, clA3, sv'.mv mS (fun k hk e => n3 (e ▸ hk)), n3, fun k hk => ?_, ?_, ?_⟩
        · rcases hk with hk | hk
          · exact .inl ((e4 k).2 (.inl hk))
          · rcases at2 with q | ⟨k', q, hk'⟩
            · exact .inl ((e4 k).2 (.inr (by rw [← q]; exact hk)))
            · rw [hk] at q; injection q with q; exact .inr (by omega)
        · rw [List.map_append, e2, List.map_append, List.filter_append]
          simp [hp]
        · intro y hy
          rcases List.mem_append.1 hy with hy | hy
          · exact e3 y hy
          · rw [List.mem_singleton.1 hy]
        · rcases at2 with q | ⟨k', q, hk'⟩
          · exact e8 k (by rw [← q]; exact hk)
          · rw [hk] at q; injection q with q; omega
        · exact mS.cell (a := ⟨bm, 0, none⟩) (nb9 bm (.inr rfl)).2 (m2.cell (a := ⟨bm, 0, none⟩) (nb9 bm (.inr rfl)).1 ((mA fun _ => False).cell (a := ⟨bm, 0, none⟩) (fun h => h) f9))
        · exact mS.cell (a := ⟨br, 0, none⟩) (nb9 br (.inl (by omega))).2 (m2.cell (a := ⟨br, 0, none⟩) (nb9 br (.inl (by omega))).1 ((mA fun _ => False).cell (a := ⟨br, 0, none⟩) (fun h => h) f10))
      obtain ⟨pv, cvv, rfl⟩ := f6.shape
      obtain ⟨pv', cv', rfl⟩ := sv'.shape
      have ec := f5.c
      have ef := cA2.f
      have ec2 := cA2.c
      obtain ⟨nd, hnd⟩ : ∃ nd, kept.length = nd := ⟨_, rfl⟩
      obtain ⟨nd', hnd'⟩ : ∃ nd', (kept ++ [(⟨x.v, x.t, none⟩ : Rec)]).length = nd' := ⟨_, rfl⟩
      rw [hnd] at hrun ec ec2
      rw [hnd'] at hrun hA3
      clear sv' m2 at2 e1 e2 e3 e4 e5 e6 e7 e8 e9 e10 f5 f6 n2 clA3 mS n3 svA raA mA hm2 hi hm tw cA2 hnd hnd' hmt bx m3 f9 f10 hkl
      gi_wp2_with (first | rw [hA] | rw [hA3] | (gi_at_builtin; refine wpListIn_append_run rfl _ _ 52 rfl _ _ _ _ rfl rfl hrun ?_))
      exact fin.out
  case done =>
    rintro D E2 U hD hK hnD hm hg ⟨kv, kept, done, e1, e2, e3, e4, e5, e6, e7, e8, e9, e10⟩
    rw [List.append_nil] at e1
    subst e1
    have hk : (kept.map fun x => (x.v, x.t)).Perm (L'.filter fun y => !p y.1) := by rw [e2]; exact (hpm.trans a2.pm).filter _
    have hfl : (L'.filter fun y => !p y.1).map (·.1) = L.filter fun x => !p x := by rw [← a3, List.filter_map]; rfl
    have hkl : kept.length = (L.filter fun x => !p x).length := by
      have z := hk.length_eq
      rw [List.length_map] at z
      rw [z, ← hfl, List.length_map]
    obtain ⟨cn, hcn⟩ : ∃ cn, L.length = cn := ⟨_, rfl⟩
    obtain ⟨kn, hkn⟩ : ∃ kn, kept.length = kn := ⟨_, rfl⟩
    have hle : kn ≤ cn := by rw [← hkn, hkl, ← hcn]; exact List.length_filter_le _ _
    have QU := Q3.mv hm (show ¬ q = bm + 1 by omega) (fun k hk e => by have := hlv k hk; omega) (fun k hk e => by have := a1.lo k hk; omega)
    obtain ⟨pk, ck, hkv⟩ := e6.shape
    rw [hkn] at hkv
    have cq2 : U.drew.cell? ⟨q, 2, none⟩ = some (.int .i64 (cn : Int)) := by have := QU.c2; rw [hcn] at this; exact this
    have ckk : U.drew.cell? ⟨bm + 1, 0, none⟩ = some (.slice pk kn ck) := by rw [← hkv]; exact e5.c
    have hcI : (cn : Int) ≤ 200000 := by omega
    have hleI : (kn : Int) ≤ (cn : Int) := by omega
    have lD : D < U.heap.size := (Array.getElem?_eq_some_iff.1 hK).1
    have bU : Below w.heap.size w U := b03.trans (hm.toBelow b03.size (fun k hk e => by omega))
    by_cases hlt : kn < cn
    · have h0 : (0 : Int) < (cn : Int) - (kn : Int) := by omega
      obtain ⟨U3, hU3⟩ : ∃ U3, ((U.setCell ⟨q, 1, none⟩ (.slice none 0 0)).setCell ⟨q, 2, none⟩ (.int .i64 (kn : Int))).drew.drew = U3 := ⟨_, rfl⟩
      have s1 : (U.setCell ⟨q, 1, none⟩ (.slice none 0 0)).drew.drew.cell? ⟨q, 2, none⟩ = some (.int .i64 (cn : Int)) := (World.cell?_setCell_other U _ _ _ (by simp)).trans cq2
      have s3 : (U.setCell ⟨q, 1, none⟩ (.slice none 0 0)).drew.drew.cell? ⟨bm + 1, 0, none⟩ = some (.slice pk kn ck) := (World.cell?_setCell_other U _ _ _ (by simp)).trans ckk
      have s2 : (U.setCell ⟨q, 1, none⟩ (.slice none 0 0)).drew.drew.frozen? ⟨q, 2, none⟩ = false := ((Cv.one U q 1 (.slice none 0 0)).fr q 2 QU.lt).trans QU.f2
      have cq1 : U.drew.drew.cell? ⟨q, 1, none⟩ = some v := QU.c1
      have cq2' : U.drew.drew.cell? ⟨q, 2, none⟩ = some (.int .i64 (cn : Int)) := cq2
      have ckk' : U.drew.drew.cell? ⟨bm + 1, 0, none⟩ = some (.slice pk kn ck) := ckk
      have fq1 : U.drew.drew.frozen? ⟨q, 1, none⟩ = false := QU.f1
      have fq2 : U.drew.drew.frozen? ⟨q, 2, none⟩ = false := QU.f2
      have k3 : Cv (fun k j => k = q ∧ 1 ≤ j ∧ j < 1 + 2) U.drew.drew U3 := by
        have := Cv.cells U.drew.drew q 1 [.slice none 0 0, .int .i64 (kn : Int)]
        rw [← hU3]; exact this
      have mq : Mv (fun k => k = q) U U3 := ((Mv.drew _ _).trans' (Mv.drew _ _)).trans' (k3.mv.mono fun k _ s => by obtain ⟨j, s, _⟩ := s; exact s)
      have ck3 : U3.cell? ⟨bm + 1, 0, none⟩ = some (.slice pk kn ck) := k3.cell (k := bm + 1) (j := 0) (by omega) ckk'
      have d1 : U3.cell? ⟨q, 1, none⟩ = some (.slice none 0 0) := by rw [← hU3]; exact (World.cell?_setCell_other _ _ _ _ (by simp)).trans (World.cell?_setCell_same _ _ _ cq1)
      have d2 : U3.cell? ⟨q, 2, none⟩ = some (.int .i64 (kn : Int)) := by rw [← hU3]; exact World.cell?_setCell_same _ _ _ ((World.cell?_setCell_other _ _ _ _ (by simp)).trans cq2')
      have lqU : q < U.drew.drew.heap.size := QU.lt
      have nBq : ∀ k, B k → k < bm := fun k hk => by have := a1.lo k hk; omega
      have Qz : Qm nb U3 q B (.slice none 0 0) [] [] (kn : Int) n := ⟨k3.cell (k := q) (j := 0) (by omega) QU.c0, d1, d2, k3.cell (k := q) (j := 3) (by omega) QU.c3, (k3.fr q 1 lqU).trans QU.f1, (k3.fr q 2 lqU).trans QU.f2, (k3.fr q 3 lqU).trans QU.f3, .inl ⟨rfl, rfl⟩, trivial, (fun e => by cases e), (fun k hk => ⟨(QU.nB k hk).1, fun e => by cases e⟩), (fun k hk => by have := nBq k hk; have := mq.size; omega), by simp, (show Xt U.drew.drew q nb.X from QU.xt).cv k3 (fun j hj s => by have := s.2.2; omega) lqU⟩
      have nkq : nbk kv ≠ some q := fun e => by have := e8 q e; omega
      have sv3 := e6.mv mq (fun k hk e => nkq (e ▸ hk))
      have hfr := hidP (free_any (hB (fun e => by rw [e, List.length_nil] at hcn; omega)) Qz (m := 0) (T := nilT kept) Fl.nil (fun _ _ => .inr rfl) (fun x hx => by rw [nilT_k x hx]; trivial) sv3 (RF.nils kept e3) (by omega) nkq (fun k hk => ⟨(fun e => by cases e), fun hk' => by have := e8 k hk; have := nBq k hk'; omega⟩))
      have hEnd : Hid (∀ V4, FP nb key U3 q B (.slice none 0 0) kv [] (nilT kept) (kn : Int) n (.returned (.tuple #[])) V4 → V4.heap[D]? = some (.deferred (some [])) ∧ Qg nb key w q E B (L.filter fun x => !p x) n (V4.putObj D (.deferred none))) := by
        intro V4 hF
        obtain ⟨_, F', ⟨v', xs', B', Q6, m6, g6, at6⟩, hF'⟩ := hF
        have nD : ¬ (D = q ∨ nbk (.slice none 0 0) = some D ∨ nbk kv = some D) := by
          rintro (e | e | e)
          · omega
          · cases e
          · exact hnD ((e4 D).2 (.inr e))
        have lD3 : D < U3.heap.size := by have := mq.size; omega
        have hb4 : V4.heap[D]? = some (.deferred (some [])) := (m6.block D lD3 nD).trans ((mq.block D lD (by omega)).trans hK)
        refine ⟨hb4, ?_⟩
        have hF2 := hF'.resolve_left (fun z => z.1 rfl)
        have hQI := drop_QI a2 hk hF2.2.1 hF2.2.2
        have nv' : ∀ k, nbk v' = some k → U3.heap.size ≤ k := fun k e => by
          rcases at6 with z | ⟨k', z, hk'⟩
          · rw [e] at z; cases z
          · rw [e] at z; injection z with z; omega
        have sz3 := mq.size
        have szU := bU.size
        have mP : Mv (fun k => k = D) V4 (V4.putObj D (.deferred none)) := Mv.put (E := fun k => k = D) rfl _
        refine ⟨fun k => k = q ∨ nbk v' = some k, B', ⟨v', xs', F', _, ?_, hQI, hfl, by rw [← hkl]; omega, a5, fun _ => Iff.rfl⟩, ?_, ?_, ?_⟩
        · have := Q6.mv mP (show ¬ q = D by omega) (fun k hk e => by have := nv' k hk; omega) (fun k hk e => by
            rcases g6 k hk with z | z
            · have := nBq k z; omega
            · omega)
          rw [← hkl, hkn]
          exact this
        · refine (((Mv.below bU).trans (E' := fun k => k = q) (fun k e => .inl ((a6 k).2 (.inl e))) mq).trans (E' := fun k => k = q ∨ nbk (.slice none 0 0) = some k ∨ nbk kv = some k) (fun k hk => ?_) m6).trans (E' := fun k => k = D) (fun k e => .inr (by omega)) mP
          rcases hk with e | e | e
          · exact .inl ((a6 k).2 (.inl e))
          · cases e
          · exact .inr (by have := e8 k e; omega)
        · intro k hk
          rcases hk with e | e
          · exact .inl ((a6 k).2 (.inl e))
          · exact .inr (by have := nv' k e; omega)
        · intro k hk
          exact (g6 k hk).imp id (fun z => by omega)
      rw [hkv] at hfr hEnd
      have hres : (L.filter fun x => !p x).length = kn := by rw [← hkl, hkn]
      clear Qz sv3 mq k3 QU e2 e3 e4 e5 e6 e7 e8 e9 e10 hI row d1 d2 hM
      gi_wp2_with fail
      gi_region
      gi_wp2_with fail
      gi_region
      gi_wp2_with fail
      refine ⟨trivial, (callsIn_wide.2 hfr.out).mono ?_⟩
      rintro e V4 hF4
      obtain rfl := hF4.1
      have fin := hidP (hEnd.out V4 hF4)
      clear hF4 hEnd hfr
      gi_wp2_with fail
      refine ⟨by simp, .inl ⟨_, _, rfl, run_takeDeferred fin.out.1, ?_⟩⟩
      refine ⟨_, by simp [results, Tryz.results34, go_sem]; rfl, ?_⟩
      rw [hres, hcn]
      exact ⟨rfl, fin.out.2⟩
    · have h0 : ¬ (0 : Int) < (cn : Int) - (kn : Int) := by omega
      have fin : Hid (Qg nb key w q E B (L.filter fun x => !p x) n (U.drew.putObj D (.deferred none))) := by
        have ef : (L.filter fun x => !p x) = L := List.filter_sublist.eq_of_length (by rw [← hkl, hkn, hcn]; omega)
        have bf : Below w.heap.size w (U.drew.putObj D (.deferred none)) := bU.drew.trans ((Mv.put (E := fun k => k = D) (W := U.drew) rfl _).toBelow bU.size (fun k hk e => by omega))
        rw [ef]
        exact ⟨E, B, hq0.out.mv (D := fun _ => False) (Mv.below bf) (fun _ _ h => h) (fun _ _ h => h), Mv.below bf, Gr.refl _ _, Gr.refl _ _⟩
      have hres : (L.filter fun x => !p x).length = kn := by rw [← hkl, hkn]
      have hKH := hidP (show U.drew.heap[D]? = some (.deferred (some [])) from hK)
      clear QU e2 e3 e4 e5 e6 e7 e8 e9 e10 hI row hK hM
      gi_wp2_with fail
      gi_region
      gi_wp2_with fail
      refine ⟨by simp, .inl ⟨_, _, rfl, run_takeDeferred hKH.out, ?_⟩⟩
      refine ⟨_, by simp [results, Tryz.results34, go_sem]; rfl, ?_⟩
      rw [hres, hcn]
      exact ⟨rfl, fin.out⟩
  case stop =>
    intro D c E2 U hD hK hnD hm hg h
    exact h.elim
end Go.Proofs.YtdcidlgmnnaahaaGreat.Qw
