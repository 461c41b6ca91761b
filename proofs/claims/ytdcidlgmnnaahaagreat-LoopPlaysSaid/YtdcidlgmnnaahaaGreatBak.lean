import Derived.Test.YtdcidlgmnnaahaaGreatBaj
/- free, said once; join for Push. -/
namespace Go.Proofs.YtdcidlgmnnaahaaGreat.Qw
open Go.RowKit Go.Shelf Go.Lib
attribute [local go_sem] Oper.semAt_some
theorem Qm.same {nb : NB} {w V : World} {q : Nat} {B : Nat → Prop} {v : Value} {xs : List Rec} {F : List (Tr El)} {cnt psh : Int} {E : Nat → Prop} (h : Qm nb w q B v xs F cnt psh) (b : Below w.heap.size w V) : QP nb w q B v E F cnt psh V := ⟨v, xs, B, h.below b, Mv.below b, fun _ h => .inl h, .inl rfl⟩
theorem leastL_nil {α : Type} (key : α → Int) (n : Nat) : leastL key n ([] : List (Tr α)) = [] := by cases n <;> rfl
theorem Qm.slice {nb : NB} {w : World} {q : Nat} {B : Nat → Prop} {v : Value} {xs : List Rec} {F : List (Tr El)} {cnt psh : Int} (h : Qm nb w q B v xs F cnt psh) (hF : F ≠ []) : ∃ g o c, v = slv g o xs.length c ∧ RS w g o c xs := by
  rcases h.sv with ⟨_, e⟩ | s
  · have := h.rf.len
    rw [e] at this
    exact absurd (List.eq_nil_of_length_eq_zero this.symm) hF
  · exact s
/-- What free leaves. -/
def FP (nb : NB) (key : El → Int) (w : World) (q : Nat) (B : Nat → Prop) (v tv : Value) (F T : List (Tr El)) (cnt psh : Int) (e : Ending) (V : World) : Prop :=
  e = .returned (.tuple #[]) ∧ ∃ F', QP nb w q B v (fun k => k = q ∨ nbk v = some k ∨ nbk tv = some k) F' cnt psh V ∧ ((F ≠ [] ∧ F' = onL T F) ∨ (F = [] ∧ F'.Perm (leastL key T.length T) ∧ F'.Pairwise (fun a b => a.t ≤ b.t)))
theorem free_any {nb : NB} {key : El → Int} (hB : Bf nb key) {q : Nat} {w : World} {B : Nat → Prop} {v tv : Value} {xs ts : List Rec} {F T : List (Tr El)} {cnt psh : Int} (h : Qm nb w q B v xs F cnt psh) {m : Int} (hF : Fl key m F) (hT : ∀ x ∈ T, m < key x.v ∨ F = []) (hU : ∀ x ∈ T, x.k.Up key (key x.v)) (ht : SV w tv ts) (hr : RF w B ts T) (hl : ts.length ≤ 300000) (nq : nbk tv ≠ some q) (nv : ∀ k, nbk tv = some k → nbk v ≠ some k ∧ ¬ B k) :
    Calls Tryz.prog 46 #[qp q, tv] w (FP nb key w q B v tv F T cnt psh) := by
  obtain ⟨pt, ct, hpt⟩ := ht.shape
  obtain ⟨pv, cv, hpv⟩ := h.sv.shape
  have hc1 := h.c1
  by_cases hF0 : F = []
  · subst hF0
    have hxs : xs = [] := List.eq_nil_of_length_eq_zero h.rf.len
    subst hxs
    have hpv' : v = .slice pv 0 cv := hpv
    by_cases hT0 : T = []
    · subst hT0
      have hts : ts = [] := List.eq_nil_of_length_eq_zero hr.len
      subst hts
      have hpt' : tv = .slice pt 0 ct := hpt
      have c := free_short (P := fun V => Below w.heap.size w V) (by rw [← hpv']; exact hc1) (unheld_empty q pt pv 0 ct cv w)
      rw [← hpt'] at c
      refine c.mono ?_
      rintro e V ⟨rfl, hb⟩
      exact ⟨rfl, [], h.same hb, .inr ⟨rfl, by rw [leastL_nil], List.Pairwise.nil⟩⟩
    · have hp : 0 < ts.length := by rw [hr.len]; exact List.length_pos_iff.2 hT0
      obtain ⟨gt, ot, c, htv, hrs⟩ : ∃ g o c, tv = slv g o ts.length c ∧ RS w g o c ts := by
        rcases ht with ⟨_, e⟩ | s
        · rw [e] at hp; simp at hp
        · exact s
      subst htv
      have hng : ∀ k, B k → k ≠ gt := fun k hk e => (nv gt rfl).2 (e ▸ hk)
      have c := free_new hB h ⟨hrs, hr, hU, hng, h.lo, by omega⟩ hp hl (fun e => nq (by rw [e]; rfl)) (nv gt rfl).1
      refine c.mono ?_
      rintro e V ⟨rfl, ⟨F', fp, fs, hq⟩⟩
      refine ⟨rfl, F', ?_, .inr ⟨rfl, by rw [hr.len] at fp; exact fp, fs⟩⟩
      obtain ⟨v', xs', B', h1, h2, h3, h4⟩ := hq
      exact ⟨v', xs', B', h1, h2.mono (fun k _ e => by rcases e with e | e | e; exact .inl e; exact .inr (.inl e); exact .inr (.inr (by rw [e]; rfl))), h3, h4⟩
  · obtain ⟨g, o, c, hv, hrs⟩ := h.slice hF0
    have hpx : 0 < xs.length := by rw [h.rf.len]; exact List.length_pos_iff.2 hF0
    have hlx := h.len
    subst hv
    by_cases hT0 : T = []
    · subst hT0
      have hts : ts = [] := List.eq_nil_of_length_eq_zero hr.len
      subst hts
      rcases ht with ⟨e, _⟩ | ⟨gt, ot, ct', htv, hrt⟩
      · rw [e]
        have c := free_short (P := fun V => Below w.heap.size w V) hc1 (unheld_nil q _ _ _ hpx w)
        refine c.mono ?_
        rintro e V ⟨rfl, hb⟩
        exact ⟨rfl, F, h.same hb, .inl ⟨hF0, (onL_nil F).symm⟩⟩
      · subst htv
        have c := free_short (P := fun V => Below w.heap.size w V) hc1 (unheld_no hB w h.c0 hrs (by omega) hpx hrt (by simp) (fun t ht => by cases ht))
        refine c.mono ?_
        rintro e V ⟨rfl, hb⟩
        exact ⟨rfl, F, h.same hb, .inl ⟨hF0, (onL_nil F).symm⟩⟩
    · have hp : 0 < ts.length := by rw [hr.len]; exact List.length_pos_iff.2 hT0
      obtain ⟨gt, ot, ct', htv, hrt⟩ : ∃ g o c, tv = slv g o ts.length c ∧ RS w g o c ts := by
        rcases ht with ⟨_, e⟩ | s
        · rw [e] at hp; simp at hp
        · exact s
      subst htv
      obtain ⟨Y, y, rfl⟩ := snoc_of hF0
      obtain ⟨ya, x1, rfl, r1, r2⟩ := RF.split h.rf
      obtain ⟨x, rfl, e1, e2, hlr⟩ := r2.one
      have hx : key x.v = m := by rw [e1]; exact (hF y (by simp)).1
      have hng : ∀ k, B k → k ≠ gt := fun k hk e => (nv gt rfl).2 (e ▸ hk)
      have hnb : ∀ k, B k → k ≠ g := fun k hk e => (h.nB k hk).2 (by rw [e]; rfl)
      have hgg : gt ≠ g := fun e => (nv gt rfl).1 (by rw [e]; rfl)
      rw [List.length_append, List.length_singleton] at hlx hc1
      have hY : Yes key w B ts T g o c ya x y.k gt ot ct' := ⟨hrs, by omega, hlr, hnb, hng, h.lo, hrt, by omega, hr, fun t ht => by
        obtain ⟨i, hi⟩ := List.getElem?_of_mem ht
        obtain ⟨z, hz, e3, _⟩ := hr.get hi
        have := hT z (List.mem_of_getElem? hz)
        rcases this with q | q
        · rw [hx, e3]; exact q
        · exact absurd q hF0, fun j _ _ s => hgg s.1⟩
      have nqg : q ≠ g := fun e => h.nq (by rw [e]; rfl)
      have cu := free_short (P := fun V => ∃ p B', UY w B T g o c ya x y.k gt ot ts.length V p B') hc1 (unheld_yes hB hY h.c0 nqg hp)
      refine cu.mono ?_
      rintro e V ⟨rfl, p, B', hu⟩
      have hmv : Mv (fun k => k = g ∨ k = gt) w V := hu.cv.mv.mono fun k _ s => by
        obtain ⟨j, s | s⟩ := s
        · exact .inl s.1
        · exact .inr s.1
      have nqe : ¬ (q = g ∨ q = gt) := by
        rintro (e | e)
        · exact nqg e
        · exact nq (by rw [e]; rfl)
      have lq := h.lt
      have lg := hrs.rm.lt
      refine ⟨rfl, onL T (Y ++ [y]), ⟨slv g o (ya ++ [(⟨x.v, x.t, p⟩ : Rec)]).length c, ya ++ [⟨x.v, x.t, p⟩], B', ⟨hmv.cell (a := ⟨q, 0, none⟩) nqe h.c0, ?_, hmv.cell (a := ⟨q, 2, none⟩) nqe h.c2, hmv.cell (a := ⟨q, 3, none⟩) nqe h.c3, (hmv.froz (a := ⟨q, 1, none⟩) nqe lq).trans h.f1, (hmv.froz (a := ⟨q, 2, none⟩) nqe lq).trans h.f2, (hmv.froz (a := ⟨q, 3, none⟩) nqe lq).trans h.f3, .inr ⟨g, o, c, rfl, hu.rs⟩, hu.rf r1 e1 e2 hnb hng, h.nq, fun k hk => ?_, hu.lo, by simpa using hlx, h.xt.mv hmv nqe lq⟩, hmv.mono (fun k _ e => ?_), hu.gr, .inl rfl⟩, .inl ⟨hF0, rfl⟩⟩
      · have := hmv.cell (a := ⟨q, 1, none⟩) nqe hc1
        rw [List.length_append, List.length_singleton]
        exact this
      · rcases hu.gr k hk with s | s
        · exact h.nB k s
        · exact ⟨by omega, fun e => by injection e with e; have e' : g = k := e; omega⟩
      · rcases e with e | e
        · exact .inr (.inl (by rw [e]; rfl))
        · exact .inr (.inr (by rw [e]; rfl))
/-- What join leaves for Push. -/
def JQ (w : World) (q : Nat) (B : Nat → Prop) (v : Value) (gb : Nat) (F' : List (Tr El)) (e : Ending) (V : World) : Prop :=
  ∃ v' xs' B', e = .returned v' ∧ SV V v' xs' ∧ RF V B' xs' F' ∧ Gr B w B' ∧ (∀ b, B' b → b < V.heap.size ∧ b ≠ q ∧ nbk v' ≠ some b) ∧ Mv (fun k => nbk v = some k ∨ k = gb) w V ∧ (nbk v' = nbk v ∨ ∃ k, nbk v' = some k ∧ w.heap.size ≤ k) ∧ nbk v' ≠ some q
theorem Qm.newv {nb : NB} {w : World} {q : Nat} {B : Nat → Prop} {v : Value} {xs : List Rec} {F : List (Tr El)} {cnt psh : Int} (h : Qm nb w q B v xs F cnt psh) {v' : Value} {n : Nat} (hn : w.heap.size ≤ n) (ha : nbk v' = nbk v ∨ ∃ k, nbk v' = some k ∧ n ≤ k) : nbk v' ≠ some q := fun e => by
  rcases ha with s | ⟨k, s, hk⟩
  · exact h.nq (s ▸ e)
  · rw [e] at s; injection s with s; have := h.lt; omega
set_option maxRecDepth 100000 in
set_option maxHeartbeats 1000000 in
/-- join where the first row is empty. -/
theorem join_none {nb : NB} {key : El → Int} (hB : Bf nb key) {q : Nat} {w : World} {B : Nat → Prop} {v : Value} {cnt psh : Int} (h : Qm nb w q B v [] [] cnt psh) {gb cb : Nat} {r : Rec} {y : Tr El} (hb : RS w gb 0 cb [r]) (hr : RF w B [r] [y]) :
    Calls Tryz.prog 45 #[qp q, v, slv gb 0 1 cb] w (JQ w q B v gb [y]) := by
  obtain ⟨pv, cv, hv⟩ := h.sv.shape
  have hv' : v = .slice pv 0 cv := hv
  have hC := hidP (unheld_empty q (some ⟨gb, 0, none⟩) pv 1 cb cv w)
  have hU : Hid (∀ V, Below w.heap.size w V → Calls Tryz.prog 59 #[qp q, .slice pv 0 cv, slv gb 0 1 cb] V fun e V2 => e = .returned (.slice pv 0 cv) ∧ ∃ pv2 nv2 cv2 V3, (Builtin.append_ #[52, 52] 52 #[.slice pv 0 cv, slv gb 0 1 cb]).run Tryz.prog V2 = .ok (.slice pv2 nv2 cv2) V3 ∧ JQ w q B v gb [y] (.returned (.slice pv2 nv2 cv2)) V3) := by
    intro V hbV
    have h1 := h.below hbV
    have hb1 := hb.cv (S := fun _ _ => False) (Cv.below hbV) (fun _ _ _ h => h)
    have hu : Calls Tryz.prog 59 #[qp q, .slice pv 0 cv, slv gb 0 1 cb] V fun e V2 => e = .returned (.slice pv 0 cv) ∧ Below V.heap.size V V2 := by
      rcases h1.sv with ⟨e, _⟩ | ⟨g, o, c, e, hrs⟩
      · rw [hv'] at e
        rw [e]
        exact unheld_nil q _ 1 cb (by omega) V
      · rw [hv'] at e
        rw [e]
        exact unheld_no hB V (xs := [r]) (ts := []) h1.c0 hb1 (by simp) (by simp) hrs (by simp) (fun t ht => by cases ht)
    refine hu.mono ?_
    rintro e V2 ⟨rfl, hb2⟩
    refine ⟨rfl, ?_⟩
    have h2 := h1.below hb2
    have hrs2 := hb1.cv (S := fun _ _ => False) (Cv.below hb2) (fun _ _ _ h => h)
    obtain ⟨v', V3, hrun, sv', mv', at'⟩ := h2.sv.appendN hrs2.ra (by simp) (by simp) (by simp) cb
    rw [hv'] at hrun
    obtain ⟨pv2, cv2, hv2⟩ := sv'.shape
    have bw : Below w.heap.size w V2 := hbV.trans (hb2.mono hbV.size)
    rw [hv2] at hrun
    refine ⟨pv2, _, cv2, V3, hrun, v', [r], B, by rw [hv2], sv', RF.mv mv' (fun k hk e => (h.nB k hk).2 e) _ _ (RF.mv (E := fun _ => False) (Mv.below bw) (fun _ _ h => h) _ _ hr), fun _ h => .inl h, fun b hb' => ⟨?_, (h.nB b hb').1, fun e => ?_⟩, ?_, ?_, h2.newv (Nat.le_refl _) at'⟩
    · have := h.lo b hb'; have := bw.size; have := mv'.size; omega
    · rcases at' with s | ⟨k, s, hk⟩
      · exact (h.nB b hb').2 (s ▸ e)
      · rw [e] at s; injection s with s; have := h.lo b hb'; have := bw.size; omega
    · exact (Mv.below bw).trans' (mv'.mono fun k _ e => .inl e)
    · rcases at' with s | ⟨k, s, hk⟩
      · exact .inl s
      · exact .inr ⟨k, s, Nat.le_trans bw.size hk⟩
  rw [hv']
  clear h hb hr hB hv
  unfold qp slv at *
  go_enter Tryz.func45, Tryz.ntmps45
  go_wp2_with fail
  refine hC.out.mono ?_
  rintro e V ⟨rfl, hbV⟩
  have hUV := hidP (hU.out V hbV)
  clear hC hU hbV
  go_wp2_with fail
  refine hUV.out.mono ?_
  rintro e V2 ⟨rfl, pv2, nv2, cv2, V3, hrun, hj⟩
  have hjH := hidP hj
  clear hj hUV
  go_wp2_with (at_builtin; refine wpList_append_run rfl _ _ 52 rfl _ _ _ _ rfl rfl hrun ?_)
  go_ret
  rw [← hv']
  exact hjH.out
theorem join_push {nb : NB} {key : El → Int} (hB : Bf nb key) {q : Nat} {w : World} {B : Nat → Prop} {v : Value} {xs : List Rec} {F : List (Tr El)} {cnt psh : Int} (h : Qm nb w q B v xs F cnt psh) {m : Int} (hF : Fl key m F) {gb cb : Nat} {r : Rec} {y : Tr El} (hb : RS w gb 0 cb [r]) (hr : RF w B [r] [y]) (hy : y.k = .nil) (ngb : ∀ k, B k → k ≠ gb) (nq : q ≠ gb) (nv : nbk v ≠ some gb) :
    Calls Tryz.prog 45 #[qp q, v, slv gb 0 1 cb] w (JQ w q B v gb (joinL key F [y])) := by
  by_cases hF0 : F = []
  · subst hF0
    obtain rfl : xs = [] := List.eq_nil_of_length_eq_zero h.rf.len
    have e : joinL key [] [y] = [y] := rfl
    rw [e]
    exact join_none hB h hb hr
  · obtain ⟨g, o, c, rfl, hrs⟩ := h.slice hF0
    have hgb : gb ≠ g := fun e => nv (by rw [e]; rfl)
    have T : Two key w B xs F g o c [r] [y] gb 0 cb m (key y.v) := ⟨hrs, h.rf, hF, hF0, hb, hr, Fl.one (x := y) (by rw [hy]; trivial), by simp, fun k hk e => (h.nB k hk).2 (by rw [e]; rfl), ngb, h.lo, fun j _ _ s => hgb s.1, by have := h.len; omega, by simp⟩
    refine (join_any hB T h.c0 (fun e => h.nq (by rw [e]; rfl)) nq).mono ?_
    rintro e V ⟨g', o', c', xs', B', rfl, rs', rf', up, gr, lo, cv, at'⟩
    have hat : nbk (slv g' o' xs'.length c') = nbk (slv g o xs.length c) ∨ ∃ k, nbk (slv g' o' xs'.length c') = some k ∧ w.heap.size ≤ k := by
      rcases at' with s | s
      · exact .inl (by rw [s.1]; rfl)
      · exact .inr ⟨g', rfl, s.2.1⟩
    refine ⟨slv g' o' xs'.length c', xs', B', rfl, .inr ⟨g', o', c', rfl, rs'⟩, rf', gr, fun b hb' => ⟨lo b hb', ?_, ?_⟩, ?_, hat, h.newv (Nat.le_refl _) hat⟩
    · rcases gr b hb' with s | s
      · exact (h.nB b s).1
      · have := h.lt; omega
    · intro e
      have e' : g' = b := by injection e
      rcases at' with s | s
      · rcases gr b hb' with z | z
        · exact (h.nB b z).2 (by rw [← e', s.1]; rfl)
        · have := hrs.rm.lt; have := s.1; omega
      · exact s.2.2 (e' ▸ hb')
    · refine cv.mv.mono fun k _ s => ?_
      obtain ⟨j, s | s⟩ := s
      · exact .inl (by rw [s.1]; rfl)
      · exact .inr s.1
end Go.Proofs.YtdcidlgmnnaahaaGreat.Qw
/- A queue by what is in it: New, Len, Peek, Push, Pop. -/
namespace Go.Proofs.YtdcidlgmnnaahaaGreat.Qw
open Go.RowKit Go.Shelf Go.Lib
attribute [local go_sem] Oper.semAt_some
/-- A queue holds the elements L, in order; n were pushed. -/
def Qu (nb : NB) (key : El → Int) (w : World) (q : Nat) (E B : Nat → Prop) (L : List El) (n : Nat) : Prop :=
  ∃ v xs F L', Qm nb w q B v xs F L.length n ∧ QI key F L' n ∧ L'.map (·.1) = L ∧ L.length ≤ n ∧ n ≤ 200000 ∧ ∀ k, E k ↔ (k = q ∨ nbk v = some k)
theorem Qu.lt {nb : NB} {key : El → Int} {w : World} {q : Nat} {E B : Nat → Prop} {L : List El} {n : Nat} (h : Qu nb key w q E B L n) : (∀ k, E k → k < w.heap.size) ∧ (∀ k, B k → k < w.heap.size) := by
  obtain ⟨v, xs, F, L', h1, _, _, _, _, h6⟩ := h
  refine ⟨fun k hk => ?_, h1.lo⟩
  rcases (h6 k).1 hk with rfl | hk
  · exact h1.lt
  · exact h1.sv.lt hk
theorem Qu.mv {D : Nat → Prop} {nb : NB} {key : El → Int} {w V : World} {q : Nat} {E B : Nat → Prop} {L : List El} {n : Nat} (h : Qu nb key w q E B L n) (m : Mv D w V) (h1 : ∀ k, E k → ¬ D k) (h2 : ∀ k, B k → ¬ D k) : Qu nb key V q E B L n := by
  obtain ⟨v, xs, F, L', a1, a2, a3, a4, a5, a6⟩ := h
  exact ⟨v, xs, F, L', a1.mv m (h1 q ((a6 q).2 (.inl rfl))) (fun k hk => h1 k ((a6 k).2 (.inr hk))) h2, a2, a3, a4, a5, a6⟩
/-- From one state to another one. -/
def Qg (nb : NB) (key : El → Int) (w : World) (q : Nat) (E B : Nat → Prop) (L : List El) (n : Nat) (V : World) : Prop :=
  ∃ E' B', Qu nb key V q E' B' L n ∧ Mv E w V ∧ Gr E w E' ∧ Gr B w B'
set_option maxRecDepth 100000 in
set_option maxHeartbeats 1000000 in
theorem new_any {nb : NB} (hf : nb.f = .func (.func nb.n) #[] #[]) (hX : nb.X = fun _ => none) {key : El → Int} (w : World) : Calls Tryz.prog 25 #[fnV nb] w fun e V => e = .returned (qp w.heap.size) ∧ Qu nb key V w.heap.size (fun k => k = w.heap.size) (fun _ => False) [] 0 ∧ Below w.heap.size w V := by
  obtain ⟨V, hV⟩ : ∃ V, w.alloc (.cells #[.func (.func nb.n) #[] #[], .slice none 0 0, .int .i64 0, .int .i64 0] 54) = V := ⟨_, rfl⟩
  have c : ∀ j u, #[Value.func (.func nb.n) #[] #[], .slice none 0 0, .int .i64 0, .int .i64 0][j]? = some u → V.cell? ⟨w.heap.size, j, none⟩ = some u := fun j u hj => by rw [← hV]; exact cell_at rfl hj
  have f : ∀ j, V.frozen? ⟨w.heap.size, j, none⟩ = false := fun j => by rw [← hV]; exact froz_new rfl
  have fin : Hid (Qu nb key V w.heap.size (fun k => k = w.heap.size) (fun _ => False) [] 0 ∧ Below w.heap.size w V) :=
    ⟨⟨.slice none 0 0, [], [], [], ⟨(by unfold fnV; rw [hf]; exact c 0 _ rfl), c 1 _ rfl, c 2 _ rfl, c 3 _ rfl, f 1, f 2, f 3, .inl ⟨rfl, rfl⟩, trivial, (fun e => by cases e), (fun _ h => h.elim), (fun _ h => h.elim), by simp, ⟨fun j hj => by rw [hX, ← hV]; exact cell_new_none rfl (by simp; omega), fun j _ => by rw [← hV]; exact froz_new rfl⟩⟩, QI.nil key 0, rfl, Nat.le_refl _, by omega, fun k => ⟨.inl, fun h => h.elim id (fun e => by cases e)⟩⟩, by rw [← hV]; exact (Below.refl _ _).alloc (Nat.le_refl _) _⟩
  unfold fnV qp
  rw [hf]
  clear c f
  go_enter Tryz.func25, Tryz.ntmps25
  go_wp2_with (rw [hV])
  go_ret
  exact ⟨rfl, fin.out⟩
set_option maxRecDepth 100000 in
set_option maxHeartbeats 1000000 in
theorem len_any {nb : NB} {key : El → Int} {w : World} {q : Nat} {E B : Nat → Prop} {L : List El} {n : Nat} (h : Qu nb key w q E B L n) : Calls Tryz.prog 36 #[qp q] w fun e V => e = .returned (.int .i64 L.length) ∧ V = w := by
  obtain ⟨v, xs, F, L', a1, _⟩ := h
  have c2 := a1.c2
  obtain ⟨m, hm⟩ : ∃ m, L.length = m := ⟨_, rfl⟩
  rw [hm] at c2 ⊢
  clear a1 hm
  unfold qp
  go_enter Tryz.func36, Tryz.ntmps36
  go_wp2_with fail
  go_ret
  exact ⟨rfl, rfl⟩
set_option maxRecDepth 100000 in
set_option maxHeartbeats 4000000 in
theorem push_any {nb : NB} {key : El → Int} (hB : Bf nb key) {w : World} {q : Nat} {E B : Nat → Prop} {L : List El} {n : Nat} (h : Qu nb key w q E B L n) (hn : n < 200000) (x : El) :
    Calls Tryz.prog 27 #[qp q, ev x] w fun e V => e = .returned (.tuple #[]) ∧ Qg nb key w q E B (insA key x L) (n + 1) V := by
  obtain ⟨w0, hw0⟩ : ∃ w0, w.alloc (.cells #[vc0 x, vc1 x, vc2 x, vc3 x, vc4 x, vc5 x] 61) = w0 := ⟨_, rfl⟩
  have bw0 : Below w.heap.size w w0 := by rw [← hw0]; exact (Below.refl _ _).alloc (Nat.le_refl _) _
  obtain ⟨bx, hbx⟩ : ∃ bx, w.heap.size = bx := ⟨_, rfl⟩
  have lbx : bx < w0.heap.size := by rw [← hw0]; simp [hbx]
  have bxc : (w0.cell? ⟨bx, 0, none⟩ = some (vc0 x) ∧ w0.cell? ⟨bx, 1, none⟩ = some (vc1 x) ∧ w0.cell? ⟨bx, 2, none⟩ = some (vc2 x) ∧ w0.cell? ⟨bx, 3, none⟩ = some (vc3 x) ∧ w0.cell? ⟨bx, 4, none⟩ = some (vc4 x) ∧ w0.cell? ⟨bx, 5, none⟩ = some (vc5 x)) := by rw [← hw0]; exact ⟨cell_at hbx rfl, cell_at hbx rfl, cell_at hbx rfl, cell_at hbx rfl, cell_at hbx rfl, cell_at hbx rfl⟩
  have hlt := (Qu.lt h).1
  obtain ⟨v, xs, F, L', a1, a2, a3, a4, a5, a6⟩ := h.mv (D := fun _ => False) (Mv.below bw0) (fun _ _ h => h) (fun _ _ h => h)
  have nvb : nbk v ≠ some bx := fun e => by have := hlt bx ((a6 bx).2 (.inr e)); omega
  obtain ⟨pv, cv, hv⟩ := a1.sv.shape
  obtain ⟨nv, hnv⟩ : ∃ nv, xs.length = nv := ⟨_, rfl⟩
  rw [hnv] at hv
  obtain ⟨N, hN⟩ : ∃ N, w0.heap.size = N := ⟨_, rfl⟩
  obtain ⟨A, hA⟩ : ∃ A, w0.drew.alloc (.cells #[vc0 x, vc1 x, vc2 x, vc3 x, vc4 x, vc5 x, .int .i64 n, .pointer none] 94) = A := ⟨_, rfl⟩
  have hbA : Below w0.heap.size w0 A := by rw [← hA]; exact ((Below.refl _ _).drew).alloc (Nat.le_refl _) _
  have hmA := a1.below hbA
  have hrA : RS A N 0 1 [⟨x, n, none⟩] := by
    have c : ∀ j u, #[vc0 x, vc1 x, vc2 x, vc3 x, vc4 x, vc5 x, .int .i64 n, .pointer none][j]? = some u → A.cell? ⟨N, j, none⟩ = some u := fun j u hj => by rw [← hA]; exact cell_at hN hj
    refine ⟨by simp, ⟨by rw [← hA]; simp [hN], by unfold maxLen; omega, fun j hj => ?_, fun j hj => by rw [← hA]; exact froz_new hN⟩, fun j u hj => ?_⟩
    · rw [Nat.zero_add]
      match j, hj with
      | 0, _ => rw [c 0 _ rfl]; rfl
      | 1, _ => rw [c 1 _ rfl]; rfl
      | 2, _ => rw [c 2 _ rfl]; rfl
      | 3, _ => rw [c 3 _ rfl]; rfl
      | 4, _ => rw [c 4 _ rfl]; rfl
      | 5, _ => rw [c 5 _ rfl]; rfl
      | 6, _ => rw [c 6 _ rfl]; rfl
      | 7, _ => rw [c 7 _ rfl]; rfl
      | j + 8, hj => omega
    · rw [Nat.zero_add]
      match j, hj with
      | 0, hj => exact c 0 _ hj
      | 1, hj => exact c 1 _ hj
      | 2, hj => exact c 2 _ hj
      | 3, hj => exact c 3 _ hj
      | 4, hj => exact c 4 _ hj
      | 5, hj => exact c 5 _ hj
      | 6, hj => exact c 6 _ hj
      | 7, hj => exact c 7 _ hj
      | j + 8, hj => simp [flat] at hj
  have hS : w0.drew.cell? ⟨q, 1, none⟩ = some (.slice pv nv cv) ∧ w0.drew.cell? ⟨q, 3, none⟩ = some (.int .i64 n) ∧ (w0.drew.cell? ⟨bx, 0, none⟩ = some (vc0 x) ∧ w0.drew.cell? ⟨bx, 1, none⟩ = some (vc1 x) ∧ w0.drew.cell? ⟨bx, 2, none⟩ = some (vc2 x) ∧ w0.drew.cell? ⟨bx, 3, none⟩ = some (vc3 x) ∧ w0.drew.cell? ⟨bx, 4, none⟩ = some (vc4 x) ∧ w0.drew.cell? ⟨bx, 5, none⟩ = some (vc5 x)) := ⟨by rw [← hv]; exact a1.c1, a1.c3, bxc⟩
  have hS1 : A.cell? ⟨q, 1, none⟩ = some (.slice pv nv cv) ∧ A.cell? ⟨q, 3, none⟩ = some (.int .i64 n) ∧ (A.cell? ⟨bx, 0, none⟩ = some (vc0 x) ∧ A.cell? ⟨bx, 1, none⟩ = some (vc1 x) ∧ A.cell? ⟨bx, 2, none⟩ = some (vc2 x) ∧ A.cell? ⟨bx, 3, none⟩ = some (vc3 x) ∧ A.cell? ⟨bx, 4, none⟩ = some (vc4 x) ∧ A.cell? ⟨bx, 5, none⟩ = some (vc5 x)) := ⟨by rw [← hv]; exact hmA.c1, hmA.c3, ⟨bcell hbA lbx bxc.1, bcell hbA lbx bxc.2.1, bcell hbA lbx bxc.2.2.1, bcell hbA lbx bxc.2.2.2.1, bcell hbA lbx bxc.2.2.2.2.1, bcell hbA lbx bxc.2.2.2.2.2⟩⟩
  obtain ⟨m, hm⟩ := a2.fl
  have hqN : q < N := by rw [← hN]; exact a1.lt
  obtain ⟨cn, hcn⟩ : ∃ cn, L.length = cn := ⟨_, rfl⟩
  have hJ : Hid (Calls Tryz.prog 45 #[qp q, .slice pv nv cv, slv N 0 1 1] A fun e V1 => ∃ pv2 nv2 cv2, e = .returned (.slice pv2 nv2 cv2) ∧ (V1.cell? ⟨q, 1, none⟩ = some (.slice pv nv cv) ∧ V1.cell? ⟨q, 3, none⟩ = some (.int .i64 n) ∧ (V1.cell? ⟨bx, 0, none⟩ = some (vc0 x) ∧ V1.cell? ⟨bx, 1, none⟩ = some (vc1 x) ∧ V1.cell? ⟨bx, 2, none⟩ = some (vc2 x) ∧ V1.cell? ⟨bx, 3, none⟩ = some (vc3 x) ∧ V1.cell? ⟨bx, 4, none⟩ = some (vc4 x) ∧ V1.cell? ⟨bx, 5, none⟩ = some (vc5 x))) ∧ (V1.frozen? ⟨q, 1, none⟩ = false ∧ ∃ V2, V1.setCell ⟨q, 1, none⟩ (.slice pv2 nv2 cv2) = V2 ∧ V2.cell? ⟨q, 3, none⟩ = some (.int .i64 n) ∧ V2.cell? ⟨q, 2, none⟩ = some (.int .i64 cn) ∧ V2.frozen? ⟨q, 3, none⟩ = false ∧ V2.frozen? ⟨q, 2, none⟩ = false ∧ ∃ V3, V2.setCell ⟨q, 3, none⟩ (.int .i64 (n + 1)) = V3 ∧ (V3.cell? ⟨q, 2, none⟩ = some (.int .i64 cn) ∧ V3.frozen? ⟨q, 2, none⟩ = false) ∧ ∃ V4, V3.setCell ⟨q, 2, none⟩ (.int .i64 (cn + 1)) = V4 ∧ Qg nb key w0 q E B (insA key x L) (n + 1) V4)) := by
    have c := join_push hB hmA hm (y := ⟨x, n, .nil⟩) hrA ⟨⟨rfl, rfl, rfl⟩, trivial⟩ rfl (fun k hk e => by have := a1.lo k hk; omega) (by omega) (fun e => by have := a1.sv.lt e; omega)
    rw [hv] at c
    refine c.mono ?_
    rintro e V1 ⟨v', xs', B1, rfl, sv', rf', gr, hb1, mv, at', nq'⟩
    obtain ⟨pv2, cv2, hv2⟩ := sv'.shape
    have hbA' := hbA.size
    have lo1 : ∀ k, nbk v = some k → k < N := fun k hk => by rw [← hN]; exact a1.sv.lt hk
    have nqe : ¬ (nbk (.slice pv nv cv) = some q ∨ q = N) := by
      rw [← hv]
      rintro (e | e)
      · exact a1.nq e
      · omega
    have lqA := hmA.lt
    have nbe : ¬ (nbk (.slice pv nv cv) = some bx ∨ bx = N) := by
      rw [← hv]
      rintro (e | e)
      · exact nvb e
      · omega
    have d0 := mv.cell (a := ⟨q, 0, none⟩) nqe hmA.c0
    have d1 := mv.cell (a := ⟨q, 1, none⟩) nqe hS1.1
    have d2 := mv.cell (a := ⟨q, 2, none⟩) nqe hmA.c2
    have d3 := mv.cell (a := ⟨q, 3, none⟩) nqe hmA.c3
    have g1 := (mv.froz (a := ⟨q, 1, none⟩) nqe lqA).trans hmA.f1
    have g2 := (mv.froz (a := ⟨q, 2, none⟩) nqe lqA).trans hmA.f2
    have g3 := (mv.froz (a := ⟨q, 3, none⟩) nqe lqA).trans hmA.f3
    have dx := hmA.xt.mv mv nqe lqA
    rw [hcn] at d2
    obtain ⟨V2, hV2⟩ : ∃ V2, V1.setCell ⟨q, 1, none⟩ v' = V2 := ⟨_, rfl⟩
    obtain ⟨V3, hV3⟩ : ∃ V3, V2.setCell ⟨q, 3, none⟩ (.int .i64 (n + 1)) = V3 := ⟨_, rfl⟩
    obtain ⟨V4, hV4⟩ : ∃ V4, V3.setCell ⟨q, 2, none⟩ (.int .i64 (cn + 1)) = V4 := ⟨_, rfl⟩
    have k2 : Cv (fun k j => k = q ∧ j = 1) V1 V2 := by rw [← hV2]; exact Cv.one _ _ _ _
    have k3 : Cv (fun k j => k = q ∧ j = 3) V2 V3 := by rw [← hV3]; exact Cv.one _ _ _ _
    have k4 : Cv (fun k j => k = q ∧ j = 2) V3 V4 := by rw [← hV4]; exact Cv.one _ _ _ _
    have l1 : q < V1.heap.size := cell_lt d0
    have l2 : q < V2.heap.size := Nat.lt_of_lt_of_le l1 k2.size
    have l3 : q < V3.heap.size := Nat.lt_of_lt_of_le l2 k3.size
    have m2 : Mv (fun k => k = q) V1 V4 := ((k2.mv.mono fun k _ s => by obtain ⟨j, s, _⟩ := s; exact s).trans' (k3.mv.mono fun k _ s => by obtain ⟨j, s, _⟩ := s; exact s)).trans' (k4.mv.mono fun k _ s => by obtain ⟨j, s, _⟩ := s; exact s)
    have p2 := k2.cell (k := q) (j := 2) (by omega) d2
    have p3 := k2.cell (k := q) (j := 3) (by omega) d3
    have p32 := k3.cell (k := q) (j := 2) (by omega) p2
    have f2 := (k2.fr q 2 l1).trans g2
    have f3 := (k2.fr q 3 l1).trans g3
    have f32 := (k3.fr q 2 l2).trans f2
    have hV2' := hV2
    rw [hv2] at hV2'
    refine ⟨pv2, xs'.length, cv2, by rw [hv2], ⟨d1, d3, ⟨mv.cell (a := ⟨bx, 0, none⟩) nbe hS1.2.2.1, mv.cell (a := ⟨bx, 1, none⟩) nbe hS1.2.2.2.1, mv.cell (a := ⟨bx, 2, none⟩) nbe hS1.2.2.2.2.1, mv.cell (a := ⟨bx, 3, none⟩) nbe hS1.2.2.2.2.2.1, mv.cell (a := ⟨bx, 4, none⟩) nbe hS1.2.2.2.2.2.2.1, mv.cell (a := ⟨bx, 5, none⟩) nbe hS1.2.2.2.2.2.2.2⟩⟩, g1, V2, hV2', p3, p2, f3, f2, V3, hV3, ⟨p32, f32⟩, V4, hV4, ?_⟩
    have grw : Gr B w0 B1 := fun k hk => (gr k hk).imp id (fun s => Nat.le_trans hbA.size s)
    have atw : nbk v' = nbk v ∨ ∃ k, nbk v' = some k ∧ w0.heap.size ≤ k := by
      rw [← hv] at at'
      rcases at' with s | ⟨k, s, hk⟩
      · exact .inl s
      · exact .inr ⟨k, s, Nat.le_trans hbA.size hk⟩
    have xl : xs'.length ≤ 300000 := by
      rw [rf'.len]
      refine Nat.le_trans joinL_len ?_
      have := a2.len
      have e1 : L'.length = L.length := by rw [← a3]; simp
      simp; omega
    have e0 : V4.cell? ⟨q, 0, none⟩ = some (fnV nb) := k4.cell (k := q) (j := 0) (by omega) (k3.cell (k := q) (j := 0) (by omega) (k2.cell (k := q) (j := 0) (by omega) d0))
    have e1 : V4.cell? ⟨q, 1, none⟩ = some v' := k4.cell (k := q) (j := 1) (by omega) (k3.cell (k := q) (j := 1) (by omega) (by rw [← hV2]; exact World.cell?_setCell_same _ _ _ d1))
    have e2 : V4.cell? ⟨q, 2, none⟩ = some (.int .i64 (cn + 1)) := by rw [← hV4]; exact World.cell?_setCell_same _ _ _ p32
    have e3 : V4.cell? ⟨q, 3, none⟩ = some (.int .i64 (n + 1)) := k4.cell (k := q) (j := 3) (by omega) (by rw [← hV3]; exact World.cell?_setCell_same _ _ _ p3)
    have fr : ∀ j, V4.frozen? ⟨q, j, none⟩ = V1.frozen? ⟨q, j, none⟩ := fun j => ((k4.fr q j l3).trans (k3.fr q j l2)).trans (k2.fr q j l1)
    refine ⟨fun k => k = q ∨ nbk v' = some k, B1, ⟨v', xs', _, insK key x n L', ⟨e0, e1, ?_, ?_, (fr 1).trans g1, (fr 2).trans g2, (fr 3).trans g3, sv'.mv m2 (fun k hk e => nq' (e ▸ hk)), RF.mv m2 (fun k hk e => (hb1 k hk).2.1 e) _ _ rf', nq', fun k hk => (hb1 k hk).2, fun k hk => Nat.lt_of_lt_of_le (hb1 k hk).1 m2.size, xl, ((dx.cv k2 (fun j hj s => by omega) l1).cv k3 (fun j hj s => by omega) l2).cv k4 (fun j hj s => by omega) l3⟩, ?_, ?_, by rw [insA_len]; omega, by omega, fun _ => Iff.rfl⟩, ?_, ?_, grw⟩
    · rw [insA_len, hcn]; exact e2
    · exact e3
    · exact a2.push x
    · rw [insK_map, a3]
    · refine ((Mv.below hbA).trans (E' := fun k => nbk (.slice pv nv cv) = some k ∨ k = N) (fun k hk => ?_) mv).trans' (m2.mono fun k _ e => (a6 k).2 (.inl e))
      rcases hk with s | s
      · rw [← hv] at s; exact .inl ((a6 k).2 (.inr s))
      · exact .inr (by omega)
    · intro k hk
      rcases hk with s | s
      · exact .inl ((a6 k).2 (.inl s))
      · rcases atw with z | ⟨k', z, hk'⟩
        · exact .inl ((a6 k).2 (.inr (z ▸ s)))
        · rw [s] at z; injection z with z; exact .inr (by omega)
  have bw0H := hidP bw0
  clear bw0
  have hnI : (n : Int) < 200000 := by omega
  have hcI : (cn : Int) ≤ 200000 := by omega
  clear nvb bxc a1 a2 a3 a4 a5 a6 hmA hrA hm hB hv hnv hcn hbA
  unfold qp slv at *
  go_enter Tryz.func27, Tryz.ntmps27
  go_wp2_with (rw [hw0])
  refine Zs.region (S := fun W => W.cell? ⟨q, 1, none⟩ = some (.slice pv nv cv) ∧ W.cell? ⟨q, 3, none⟩ = some (.int .i64 n) ∧ (W.cell? ⟨bx, 0, none⟩ = some (vc0 x) ∧ W.cell? ⟨bx, 1, none⟩ = some (vc1 x) ∧ W.cell? ⟨bx, 2, none⟩ = some (vc2 x) ∧ W.cell? ⟨bx, 3, none⟩ = some (vc3 x) ∧ W.cell? ⟨bx, 4, none⟩ = some (vc4 x) ∧ W.cell? ⟨bx, 5, none⟩ = some (vc5 x))) 16 (by kernel_rfl) ?_
  refine Zs.pure (i := 0) (oi := ⟨some 4, _, _, _, _, _⟩) (v := ?v0) rfl (by kernel_rfl) (by kernel_rfl) (by kernel_rfl) (by decide) (fun _ _ _ h => h) (Or.inl ⟨by rfl, ?hy0⟩) hS ?_
  case hy0 => (intro w hSw; (try dsimp only at hSw); go_simp; try with_reducible rfl)
  simp only [Act.put, List.setIfInBounds_toArray, List.set_cons_zero, List.set_cons_succ]
  refine Zs.pure (i := 1) (oi := ⟨some 5, _, _, _, _, _⟩) (v := ?v1) rfl (by kernel_rfl) (by kernel_rfl) (by kernel_rfl) (by decide) (fun _ _ _ h => h) (Or.inl ⟨by rfl, ?hy1⟩) hS ?_
  case hy1 => (intro w hSw; (try dsimp only at hSw); go_simp; try with_reducible rfl)
  simp only [Act.put, List.setIfInBounds_toArray, List.set_cons_zero, List.set_cons_succ]
  refine Zs.pure (i := 2) (oi := ⟨some 6, _, _, _, _, _⟩) (v := ?v2) rfl (by kernel_rfl) (by kernel_rfl) (by kernel_rfl) (by decide) (fun _ _ _ h => h) (Or.inl ⟨by rfl, ?hy2⟩) hS ?_
  case hy2 => (intro w hSw; (try dsimp only at hSw); go_simp; try with_reducible rfl)
  simp only [Act.put, List.setIfInBounds_toArray, List.set_cons_zero, List.set_cons_succ]
  refine Zs.pure (i := 3) (oi := ⟨some 7, _, _, _, _, _⟩) (v := ?v3) rfl (by kernel_rfl) (by kernel_rfl) (by kernel_rfl) (by decide) (fun _ _ _ h => h) (Or.inl ⟨by rfl, ?hy3⟩) hS ?_
  case hy3 => (intro w hSw; (try dsimp only at hSw); go_simp; try with_reducible rfl)
  simp only [Act.put, List.setIfInBounds_toArray, List.set_cons_zero, List.set_cons_succ]
  refine Zs.pure (i := 4) (oi := ⟨some 8, _, _, _, _, _⟩) (v := ?v4) rfl (by kernel_rfl) (by kernel_rfl) (by kernel_rfl) (by decide) (fun _ _ _ h => h) (Or.inl ⟨by rfl, ?hy4⟩) hS ?_
  case hy4 => (intro w hSw; (try dsimp only at hSw); go_simp; try with_reducible rfl)
  simp only [Act.put, List.setIfInBounds_toArray, List.set_cons_zero, List.set_cons_succ]
  refine Zs.take (i := 5) (oi := ⟨some 9, _, _, _, _, _⟩) (v := .slice pv nv cv) rfl (by kernel_rfl) (by kernel_rfl) (by kernel_rfl) (by decide) (by kernel_rfl) (by kernel_rfl) (fun _ _ _ h => h) (Or.inl ⟨by rfl, ?hy5⟩) hS ?_
  case hy5 => (intro w hSw; (try dsimp only at hSw); go_simp; try with_reducible rfl)
  simp only [Act.put, List.setIfInBounds_toArray, List.set_cons_zero, List.set_cons_succ]
  refine Zs.take (i := 6) (oi := ⟨some 10, _, _, _, _, _⟩) (v := .agg #[vc0 x, vc1 x, vc2 x, vc3 x, vc4 x, vc5 x]) rfl (by kernel_rfl) (by kernel_rfl) (by kernel_rfl) (by decide) (by kernel_rfl) (by kernel_rfl) (fun _ _ _ h => h) (Or.inl ⟨by rfl, ?hy6⟩) hS ?_
  case hy6 => (intro w hSw; (try dsimp only at hSw); go_simp; try with_reducible rfl)
  simp only [Act.put, List.setIfInBounds_toArray, List.set_cons_zero, List.set_cons_succ]
  refine Zs.pure (i := 7) (oi := ⟨some 11, _, _, _, _, _⟩) (v := ?v7) rfl (by kernel_rfl) (by kernel_rfl) (by kernel_rfl) (by decide) (fun _ _ _ h => h) (Or.inl ⟨by rfl, ?hy7⟩) hS ?_
  case hy7 => (intro w hSw; (try dsimp only at hSw); go_simp; try with_reducible rfl)
  simp only [Act.put, List.setIfInBounds_toArray, List.set_cons_zero, List.set_cons_succ]
  refine Zs.pure (i := 8) (oi := ⟨some 12, _, _, _, _, _⟩) (v := ?v8) rfl (by kernel_rfl) (by kernel_rfl) (by kernel_rfl) (by decide) (fun _ _ _ h => h) (Or.inl ⟨by rfl, ?hy8⟩) hS ?_
  case hy8 => (intro w hSw; (try dsimp only at hSw); go_simp; try with_reducible rfl)
  simp only [Act.put, List.setIfInBounds_toArray, List.set_cons_zero, List.set_cons_succ]
  refine Zs.pure (i := 9) (oi := ⟨some 13, _, _, _, _, _⟩) (v := ?v9) rfl (by kernel_rfl) (by kernel_rfl) (by kernel_rfl) (by decide) (fun _ _ _ h => h) (Or.inl ⟨by rfl, ?hy9⟩) hS ?_
  case hy9 => (intro w hSw; (try dsimp only at hSw); go_simp; try with_reducible rfl)
  simp only [Act.put, List.setIfInBounds_toArray, List.set_cons_zero, List.set_cons_succ]
  refine Zs.take (i := 10) (oi := ⟨some 14, _, _, _, _, _⟩) (v := .int .i64 n) rfl (by kernel_rfl) (by kernel_rfl) (by kernel_rfl) (by decide) (by kernel_rfl) (by kernel_rfl) (fun _ _ _ h => h) (Or.inl ⟨by rfl, ?hy10⟩) hS ?_
  case hy10 => (intro w hSw; (try dsimp only at hSw); go_simp; try with_reducible rfl)
  simp only [Act.put, List.setIfInBounds_toArray, List.set_cons_zero, List.set_cons_succ]
  refine Zs.pure (i := 11) (oi := ⟨some 15, _, _, _, _, _⟩) (v := .agg #[vc0 x, vc1 x, vc2 x, vc3 x, vc4 x, vc5 x, .int .i64 n, .pointer none]) rfl (by kernel_rfl) (by kernel_rfl) (by kernel_rfl) (by decide) (fun _ _ _ h => h) (Or.inl ⟨by rfl, ?hy11⟩) hS ?_
  case hy11 => (intro w hSw; (try dsimp only at hSw); go_simp; try with_reducible rfl)
  simp only [Act.put, List.setIfInBounds_toArray, List.set_cons_zero, List.set_cons_succ]
  refine Zs.one (i := 12) (oi := ⟨some 16, _, _, _, _, _⟩) (by kernel_rfl) rfl (fun K hK => ?_)
  go_simp
  refine hK.out _ _ (fun _ => hS1) ?_
  clear hK K
  try simp only [Act.put, List.setIfInBounds_toArray, List.set_cons_zero, List.set_cons_succ]
  refine Zs.one (i := 13) (oi := ⟨some 17, _, _, _, _, _⟩) (by kernel_rfl) rfl (fun K hK => ?_)
  go_simp
  refine hJ.out.mono ?_
  rintro e V1 ⟨pv2, nv2, cv2, rfl, hS2, h2⟩
  have h2H := hidP h2
  clear h2 hJ
  go_wp2_with fail
  refine hK.out _ _ (fun _ => hS2) ?_
  clear hK K
  try simp only [Act.put, List.setIfInBounds_toArray, List.set_cons_zero, List.set_cons_succ]
  refine Zs.pure (i := 14) (oi := ⟨some 18, _, _, _, _, _⟩) (v := ?v14) rfl (by kernel_rfl) (by kernel_rfl) (by kernel_rfl) (by decide) (fun _ _ _ h => h) (Or.inl ⟨by rfl, ?hy14⟩) hS2 ?_
  case hy14 => (intro w hSw; (try dsimp only at hSw); go_simp; try with_reducible rfl)
  simp only [Act.put, List.setIfInBounds_toArray, List.set_cons_zero, List.set_cons_succ]
  refine Zs.pure (i := 15) (oi := ⟨some 19, _, _, _, _, _⟩) (v := ?v15) rfl (by kernel_rfl) (by kernel_rfl) (by kernel_rfl) (by decide) (fun _ _ _ h => h) (Or.inl ⟨by rfl, ?hy15⟩) hS2 ?_
  case hy15 => (intro w hSw; (try dsimp only at hSw); go_simp; try with_reducible rfl)
  simp only [Act.put, List.setIfInBounds_toArray, List.set_cons_zero, List.set_cons_succ]
  obtain ⟨hf1, V2, hV2, e2, e3, f2, f3, V3, hV3, e2', V4, hV4, fin⟩ := h2H.out
  have finH := hidP fin
  clear fin h2H
  have hc1 := hS2.1
  refine Zs.one (i := 16) (oi := ⟨none, _, _, _, _, _⟩) (by kernel_rfl) rfl (fun K hK => ?_)
  go_simp
  refine hK.out _ _ (fun q => absurd q (by decide)) ?_
  clear hK K
  refine Zs.done (by kernel_rfl) ?_ _
  clear hS hS1 hS2 hc1
  go_wp2_with (first | rw [hV3] | rw [hV4])
  go_end0
  obtain ⟨E', B', y1, y2, y3, y4⟩ := finH.out
  exact ⟨rfl, E', B', y1, (Mv.below bw0H.out).trans' y2, Gr.mono bw0H.out.size y3, Gr.mono bw0H.out.size y4⟩
end Go.Proofs.YtdcidlgmnnaahaaGreat.Qw
/- A box for a result of struct type. -/
namespace Go.Proofs.YtdcidlgmnnaahaaGreat.Qw
open Go.RowKit Go.Shelf Go.Lib
/-- A box of zeros at b. -/
structure Bz (w : World) (b : Nat) : Prop where
  c : (w.cell? ⟨b, 0, none⟩ = some (.int .i64 0) ∧ w.cell? ⟨b, 1, none⟩ = some (.int .i64 0) ∧ w.cell? ⟨b, 2, none⟩ = some (.int .i64 0) ∧ w.cell? ⟨b, 3, none⟩ = some (.string ⟨#[]⟩) ∧ w.cell? ⟨b, 4, none⟩ = some (.string ⟨#[]⟩) ∧ w.cell? ⟨b, 5, none⟩ = some (.int .i64 0))
  f : (w.frozen? ⟨b, 0, none⟩ = false ∧ w.frozen? ⟨b, 1, none⟩ = false ∧ w.frozen? ⟨b, 2, none⟩ = false ∧ w.frozen? ⟨b, 3, none⟩ = false ∧ w.frozen? ⟨b, 4, none⟩ = false ∧ w.frozen? ⟨b, 5, none⟩ = false)
  lt : b < w.heap.size
theorem Bz.new (w : World) : Bz (w.alloc (.cells #[.int .i64 0, .int .i64 0, .int .i64 0, .string ⟨#[]⟩, .string ⟨#[]⟩, .int .i64 0] 61)) w.heap.size :=
  ⟨⟨cell_at rfl rfl, cell_at rfl rfl, cell_at rfl rfl, cell_at rfl rfl, cell_at rfl rfl, cell_at rfl rfl⟩, ⟨froz_new rfl, froz_new rfl, froz_new rfl, froz_new rfl, froz_new rfl, froz_new rfl⟩, by simp⟩
theorem Bz.mv {D : Nat → Prop} {w V : World} {b : Nat} (h : Bz w b) (m : Mv D w V) (hb : ¬ D b) : Bz V b :=
  ⟨⟨m.cell (a := ⟨b, 0, none⟩) hb h.c.1, m.cell (a := ⟨b, 1, none⟩) hb h.c.2.1, m.cell (a := ⟨b, 2, none⟩) hb h.c.2.2.1, m.cell (a := ⟨b, 3, none⟩) hb h.c.2.2.2.1, m.cell (a := ⟨b, 4, none⟩) hb h.c.2.2.2.2.1, m.cell (a := ⟨b, 5, none⟩) hb h.c.2.2.2.2.2⟩, ⟨(m.froz (a := ⟨b, 0, none⟩) hb h.lt).trans h.f.1, (m.froz (a := ⟨b, 1, none⟩) hb h.lt).trans h.f.2.1, (m.froz (a := ⟨b, 2, none⟩) hb h.lt).trans h.f.2.2.1, (m.froz (a := ⟨b, 3, none⟩) hb h.lt).trans h.f.2.2.2.1, (m.froz (a := ⟨b, 4, none⟩) hb h.lt).trans h.f.2.2.2.2.1, (m.froz (a := ⟨b, 5, none⟩) hb h.lt).trans h.f.2.2.2.2.2⟩, Nat.lt_of_lt_of_le h.lt m.size⟩
theorem Bz.put {w : World} {b : Nat} (h : Bz w b) (x : El) : ∃ V, ((((((w.setCell ⟨b, 0, none⟩ (vc0 x)).setCell ⟨b, 1, none⟩ (vc1 x)).setCell ⟨b, 2, none⟩ (vc2 x)).setCell ⟨b, 3, none⟩ (vc3 x)).setCell ⟨b, 4, none⟩ (vc4 x)).setCell ⟨b, 5, none⟩ (vc5 x)) = V ∧ (V.cell? ⟨b, 0, none⟩ = some (vc0 x) ∧ V.cell? ⟨b, 1, none⟩ = some (vc1 x) ∧ V.cell? ⟨b, 2, none⟩ = some (vc2 x) ∧ V.cell? ⟨b, 3, none⟩ = some (vc3 x) ∧ V.cell? ⟨b, 4, none⟩ = some (vc4 x) ∧ V.cell? ⟨b, 5, none⟩ = some (vc5 x)) ∧ Mv (fun k => k = b) w V := by
  refine ⟨_, rfl, ?_, ?_⟩
  · obtain ⟨hc, _, _⟩ := h
    exact ⟨((World.cell?_setCell_other _ _ _ _ (by simp)).trans ((World.cell?_setCell_other _ _ _ _ (by simp)).trans ((World.cell?_setCell_other _ _ _ _ (by simp)).trans ((World.cell?_setCell_other _ _ _ _ (by simp)).trans ((World.cell?_setCell_other _ _ _ _ (by simp)).trans (World.cell?_setCell_same _ _ _ (hc.1))))))), ((World.cell?_setCell_other _ _ _ _ (by simp)).trans ((World.cell?_setCell_other _ _ _ _ (by simp)).trans ((World.cell?_setCell_other _ _ _ _ (by simp)).trans ((World.cell?_setCell_other _ _ _ _ (by simp)).trans (World.cell?_setCell_same _ _ _ ((World.cell?_setCell_other _ _ _ _ (by simp)).trans (hc.2.1))))))), ((World.cell?_setCell_other _ _ _ _ (by simp)).trans ((World.cell?_setCell_other _ _ _ _ (by simp)).trans ((World.cell?_setCell_other _ _ _ _ (by simp)).trans (World.cell?_setCell_same _ _ _ ((World.cell?_setCell_other _ _ _ _ (by simp)).trans ((World.cell?_setCell_other _ _ _ _ (by simp)).trans (hc.2.2.1))))))), ((World.cell?_setCell_other _ _ _ _ (by simp)).trans ((World.cell?_setCell_other _ _ _ _ (by simp)).trans (World.cell?_setCell_same _ _ _ ((World.cell?_setCell_other _ _ _ _ (by simp)).trans ((World.cell?_setCell_other _ _ _ _ (by simp)).trans ((World.cell?_setCell_other _ _ _ _ (by simp)).trans (hc.2.2.2.1))))))), ((World.cell?_setCell_other _ _ _ _ (by simp)).trans (World.cell?_setCell_same _ _ _ ((World.cell?_setCell_other _ _ _ _ (by simp)).trans ((World.cell?_setCell_other _ _ _ _ (by simp)).trans ((World.cell?_setCell_other _ _ _ _ (by simp)).trans ((World.cell?_setCell_other _ _ _ _ (by simp)).trans (hc.2.2.2.2.1))))))), (World.cell?_setCell_same _ _ _ ((World.cell?_setCell_other _ _ _ _ (by simp)).trans ((World.cell?_setCell_other _ _ _ _ (by simp)).trans ((World.cell?_setCell_other _ _ _ _ (by simp)).trans ((World.cell?_setCell_other _ _ _ _ (by simp)).trans ((World.cell?_setCell_other _ _ _ _ (by simp)).trans (hc.2.2.2.2.2)))))))⟩
  · exact (Cv.cells w b 0 [vc0 x, vc1 x, vc2 x, vc3 x, vc4 x, vc5 x]).mv.mono fun k _ s => by obtain ⟨j, s, _⟩ := s; exact s
theorem Qg.box {nb : NB} {key : El → Int} {w w0 V V7 : World} {q : Nat} {E B : Nat → Prop} {L : List El} {n bx : Nat} (b : Below w.heap.size w w0) (hE : ∀ k, E k → k < w.heap.size) (hB : ∀ k, B k → k < w.heap.size) (hx : w.heap.size = bx) (lt : bx < w0.heap.size) (h : Qg nb key w0 q E B L n V) (m : Mv (fun k => k = bx) V V7) : Qg nb key w q E B L n V7 := by
  obtain ⟨E', B', y1, y2, y3, y4⟩ := h
  refine ⟨E', B', y1.mv m (fun k hk e => ?_) (fun k hk e => ?_), ?_, Gr.mono b.size y3, Gr.mono b.size y4⟩
  · rcases y3 k hk with z | z
    · have := hE k z; omega
    · omega
  · rcases y4 k hk with z | z
    · have := hB k z; omega
    · omega
  · exact ((Mv.below b).trans' y2).trans (E' := fun k => k = bx) (fun k e => .inr (by omega)) m
end Go.Proofs.YtdcidlgmnnaahaaGreat.Qw
