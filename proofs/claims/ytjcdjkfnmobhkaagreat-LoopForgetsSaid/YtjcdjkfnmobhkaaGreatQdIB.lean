/- free, said once; join for Push. -/
import Derived.Test.YtjcdjkfnmobhkaaGreatQdHB
namespace Go.Proofs.YtjcdjkfnmobhkaaGreat.Qd
open Go.RowKit Go.Shelf Go.Lib
attribute [local go_sem] Oper.semAt_some
theorem Qm.same {nb : NB} {w V : World} {q : Nat} {B : Nat → Prop} {v : Value} {xs : List Rec} {F : List (Tr El)} {cnt psh : Int} {E : Nat → Prop} (h : Qm nb w q B v xs F cnt psh) (b : Below w.heap.size w V) : QP nb w q B v E F cnt psh V := ⟨v, xs, B, h.below b, Mv.below b, fun _ h => .inl h, .inl rfl⟩
theorem leastL_nil {α : Type} (key : α → Int) (n : Nat) : leastL key n ([] : List (Tr α)) = [] := by cases n <;> rfl
theorem Qm.slice {nb : NB} {w : World} {q : Nat} {B : Nat → Prop} {v : Value} {xs : List Rec} {F : List (Tr El)} {cnt psh : Int} (h : Qm nb w q B v xs F cnt psh) (hF : F ≠ []) : ∃ g o c, v = slv g o xs.length c ∧ RS w g o c xs := by
  rcases h.sv with ⟨_, e⟩ | s
  · have := h.rf.len
    rw [e] at this
    exact absurd (List.eq_nil_of_length_eq_zero this.symm) hF
  · exact s
/-- What free leaves. -/
def FP (nb : NB) (key : El → Int) (w : World) (q : Nat) (B : Nat → Prop) (v tv : Value) (F T : List (Tr El)) (cnt psh : Int) (e : Ending) (V : World) : Prop :=
  e = .returned (.tuple #[]) ∧ ∃ F', QP nb w q B v (fun k => k = q ∨ nbk v = some k ∨ nbk tv = some k) F' cnt psh V ∧ ((F ≠ [] ∧ F' = onL T F) ∨ (F = [] ∧ F'.Perm (leastL key T.length T) ∧ F'.Pairwise (fun a b => a.t ≤ b.t)))
theorem free_any {nb : NB} {key : El → Int} (hB : Bf nb key) {q : Nat} {w : World} {B : Nat → Prop} {v tv : Value} {xs ts : List Rec} {F T : List (Tr El)} {cnt psh : Int} (h : Qm nb w q B v xs F cnt psh) {m : Int} (hF : Fl key m F) (hT : ∀ x ∈ T, m < key x.v ∨ F = []) (hU : ∀ x ∈ T, x.k.Up key (key x.v)) (ht : SV w tv ts) (hr : RF w B ts T) (hl : ts.length ≤ 300000) (nq : nbk tv ≠ some q) (nv : ∀ k, nbk tv = some k → nbk v ≠ some k ∧ ¬ B k) :
    Calls Tryz.prog 90 #[qp q, tv] w (FP nb key w q B v tv F T cnt psh) := by
  obtain ⟨pt, ct, hpt⟩ := ht.shape
  obtain ⟨pv, cv, hpv⟩ := h.sv.shape
  have hc1 := h.c1
  by_cases hF0 : F = []
  · subst hF0
    have hxs : xs = [] := List.eq_nil_of_length_eq_zero h.rf.len
    subst hxs
    have hpv' : v = .slice pv 0 cv := hpv
    by_cases hT0 : T = []
    · subst hT0
      have hts : ts = [] := List.eq_nil_of_length_eq_zero hr.len
      subst hts
      have hpt' : tv = .slice pt 0 ct := hpt
      have c := free_short (P := fun V => Below w.heap.size w V) (by rw [← hpv']; exact hc1) (unheld_empty q pt pv 0 ct cv w)
      rw [← hpt'] at c
      refine c.mono ?_
      rintro e V ⟨rfl, hb⟩
      exact ⟨rfl, [], h.same hb, .inr ⟨rfl, by rw [leastL_nil], List.Pairwise.nil⟩⟩
    · have hp : 0 < ts.length := by rw [hr.len]; exact List.length_pos_iff.2 hT0
      obtain ⟨gt, ot, c, htv, hrs⟩ : ∃ g o c, tv = slv g o ts.length c ∧ RS w g o c ts := by
        rcases ht with ⟨_, e⟩ | s
        · rw [e] at hp; simp at hp
        · exact s
      subst htv
      have hng : ∀ k, B k → k ≠ gt := fun k hk e => (nv gt rfl).2 (e ▸ hk)
      have c := free_new hB h ⟨hrs, hr, hU, hng, h.lo, by omega⟩ hp hl (fun e => nq (by rw [e]; rfl)) (nv gt rfl).1
      refine c.mono ?_
      rintro e V ⟨rfl, ⟨F', fp, fs, hq⟩⟩
      refine ⟨rfl, F', ?_, .inr ⟨rfl, by rw [hr.len] at fp; exact fp, fs⟩⟩
      obtain ⟨v', xs', B', h1, h2, h3, h4⟩ := hq
      exact ⟨v', xs', B', h1, h2.mono (fun k _ e => by rcases e with e | e | e; exact .inl e; exact .inr (.inl e); exact .inr (.inr (by rw [e]; rfl))), h3, h4⟩
  · obtain ⟨g, o, c, hv, hrs⟩ := h.slice hF0
    have hpx : 0 < xs.length := by rw [h.rf.len]; exact List.length_pos_iff.2 hF0
    have hlx := h.len
    subst hv
    by_cases hT0 : T = []
    · subst hT0
      have hts : ts = [] := List.eq_nil_of_length_eq_zero hr.len
      subst hts
      rcases ht with ⟨e, _⟩ | ⟨gt, ot, ct', htv, hrt⟩
      · rw [e]
        have c := free_short (P := fun V => Below w.heap.size w V) hc1 (unheld_nil q _ _ _ hpx w)
        refine c.mono ?_
        rintro e V ⟨rfl, hb⟩
        exact ⟨rfl, F, h.same hb, .inl ⟨hF0, (onL_nil F).symm⟩⟩
      · subst htv
        have c := free_short (P := fun V => Below w.heap.size w V) hc1 (unheld_no hB w h.c0 hrs (by omega) hpx hrt (by simp) (fun t ht => by cases ht))
        refine c.mono ?_
        rintro e V ⟨rfl, hb⟩
        exact ⟨rfl, F, h.same hb, .inl ⟨hF0, (onL_nil F).symm⟩⟩
    · have hp : 0 < ts.length := by rw [hr.len]; exact List.length_pos_iff.2 hT0
      obtain ⟨gt, ot, ct', htv, hrt⟩ : ∃ g o c, tv = slv g o ts.length c ∧ RS w g o c ts := by
        rcases ht with ⟨_, e⟩ | s
        · rw [e] at hp; simp at hp
        · exact s
      subst htv
      obtain ⟨Y, y, rfl⟩ := snoc_of hF0
      obtain ⟨ya, x1, rfl, r1, r2⟩ := RF.split h.rf
      obtain ⟨x, rfl, e1, e2, hlr⟩ := r2.one
      have hx : key x.v = m := by rw [e1]; exact (hF y (by simp)).1
      have hng : ∀ k, B k → k ≠ gt := fun k hk e => (nv gt rfl).2 (e ▸ hk)
      have hnb : ∀ k, B k → k ≠ g := fun k hk e => (h.nB k hk).2 (by rw [e]; rfl)
      have hgg : gt ≠ g := fun e => (nv gt rfl).1 (by rw [e]; rfl)
      rw [List.length_append, List.length_singleton] at hlx hc1
      have hY : Yes key w B ts T g o c ya x y.k gt ot ct' := ⟨hrs, by omega, hlr, hnb, hng, h.lo, hrt, by omega, hr, fun t ht => by
        obtain ⟨i, hi⟩ := List.getElem?_of_mem ht
        obtain ⟨z, hz, e3, _⟩ := hr.get hi
        have := hT z (List.mem_of_getElem? hz)
        rcases this with q | q
        · rw [hx, e3]; exact q
        · exact absurd q hF0, fun j _ _ s => hgg s.1⟩
      have nqg : q ≠ g := fun e => h.nq (by rw [e]; rfl)
      have cu := free_short (P := fun V => ∃ p B', UY w B T g o c ya x y.k gt ot ts.length V p B') hc1 (unheld_yes hB hY h.c0 nqg hp)
      refine cu.mono ?_
      rintro e V ⟨rfl, p, B', hu⟩
      have hmv : Mv (fun k => k = g ∨ k = gt) w V := hu.cv.mv.mono fun k _ s => by
        obtain ⟨j, s | s⟩ := s
        · exact .inl s.1
        · exact .inr s.1
      have nqe : ¬ (q = g ∨ q = gt) := by
        rintro (e | e)
        · exact nqg e
        · exact nq (by rw [e]; rfl)
      have lq := h.lt
      have lg := hrs.rm.lt
      refine ⟨rfl, onL T (Y ++ [y]), ⟨slv g o (ya ++ [(⟨x.v, x.t, p⟩ : Rec)]).length c, ya ++ [⟨x.v, x.t, p⟩], B', ⟨hmv.cell (a := ⟨q, 0, none⟩) nqe h.c0, ?_, hmv.cell (a := ⟨q, 2, none⟩) nqe h.c2, hmv.cell (a := ⟨q, 3, none⟩) nqe h.c3, (hmv.froz (a := ⟨q, 1, none⟩) nqe lq).trans h.f1, (hmv.froz (a := ⟨q, 2, none⟩) nqe lq).trans h.f2, (hmv.froz (a := ⟨q, 3, none⟩) nqe lq).trans h.f3, .inr ⟨g, o, c, rfl, hu.rs⟩, hu.rf r1 e1 e2 hnb hng, h.nq, fun k hk => ?_, hu.lo, by simpa using hlx, h.xt.mv hmv nqe lq⟩, hmv.mono (fun k _ e => ?_), hu.gr, .inl rfl⟩, .inl ⟨hF0, rfl⟩⟩
      · have := hmv.cell (a := ⟨q, 1, none⟩) nqe hc1
        rw [List.length_append, List.length_singleton]
        exact this
      · rcases hu.gr k hk with s | s
        · exact h.nB k s
        · exact ⟨by omega, fun e => by injection e with e; have e' : g = k := e; omega⟩
      · rcases e with e | e
        · exact .inr (.inl (by rw [e]; rfl))
        · exact .inr (.inr (by rw [e]; rfl))
/-- What join leaves for Push. -/
def JQ (w : World) (q : Nat) (B : Nat → Prop) (v : Value) (gb : Nat) (F' : List (Tr El)) (e : Ending) (V : World) : Prop :=
  ∃ v' xs' B', e = .returned v' ∧ SV V v' xs' ∧ RF V B' xs' F' ∧ Gr B w B' ∧ (∀ b, B' b → b < V.heap.size ∧ b ≠ q ∧ nbk v' ≠ some b) ∧ Mv (fun k => nbk v = some k ∨ k = gb) w V ∧ (nbk v' = nbk v ∨ ∃ k, nbk v' = some k ∧ w.heap.size ≤ k) ∧ nbk v' ≠ some q
theorem Qm.newv {nb : NB} {w : World} {q : Nat} {B : Nat → Prop} {v : Value} {xs : List Rec} {F : List (Tr El)} {cnt psh : Int} (h : Qm nb w q B v xs F cnt psh) {v' : Value} {n : Nat} (hn : w.heap.size ≤ n) (ha : nbk v' = nbk v ∨ ∃ k, nbk v' = some k ∧ n ≤ k) : nbk v' ≠ some q := fun e => by
  rcases ha with s | ⟨k, s, hk⟩
  · exact h.nq (s ▸ e)
  · rw [e] at s; injection s with s; have := h.lt; omega
set_option maxRecDepth 100000 in
set_option maxHeartbeats 1000000 in
/-- join where the first row is empty. -/
theorem join_none {nb : NB} {key : El → Int} (hB : Bf nb key) {q : Nat} {w : World} {B : Nat → Prop} {v : Value} {cnt psh : Int} (h : Qm nb w q B v [] [] cnt psh) {gb cb : Nat} {r : Rec} {y : Tr El} (hb : RS w gb 0 cb [r]) (hr : RF w B [r] [y]) :
    Calls Tryz.prog 71 #[qp q, v, slv gb 0 1 cb] w (JQ w q B v gb [y]) := by
  obtain ⟨pv, cv, hv⟩ := h.sv.shape
  have hv' : v = .slice pv 0 cv := hv
  have hC := hidP (unheld_empty q (some ⟨gb, 0, none⟩) pv 1 cb cv w)
  have hU : Hid (∀ V, Below w.heap.size w V → Calls Tryz.prog 88 #[qp q, .slice pv 0 cv, slv gb 0 1 cb] V fun e V2 => e = .returned (.slice pv 0 cv) ∧ ∃ pv2 nv2 cv2 V3, (Builtin.append_ #[123, 123] 123 #[.slice pv 0 cv, slv gb 0 1 cb]).run Tryz.prog V2 = .ok (.slice pv2 nv2 cv2) V3 ∧ JQ w q B v gb [y] (.returned (.slice pv2 nv2 cv2)) V3) := by
    intro V hbV
    have h1 := h.below hbV
    have hb1 := hb.cv (S := fun _ _ => False) (Cv.below hbV) (fun _ _ _ h => h)
    have hu : Calls Tryz.prog 88 #[qp q, .slice pv 0 cv, slv gb 0 1 cb] V fun e V2 => e = .returned (.slice pv 0 cv) ∧ Below V.heap.size V V2 := by
      rcases h1.sv with ⟨e, _⟩ | ⟨g, o, c, e, hrs⟩
      · rw [hv'] at e
        rw [e]
        exact unheld_nil q _ 1 cb (by omega) V
      · rw [hv'] at e
        rw [e]
        exact unheld_no hB V (xs := [r]) (ts := []) h1.c0 hb1 (by simp) (by simp) hrs (by simp) (fun t ht => by cases ht)
    refine hu.mono ?_
    rintro e V2 ⟨rfl, hb2⟩
    refine ⟨rfl, ?_⟩
    have h2 := h1.below hb2
    have hrs2 := hb1.cv (S := fun _ _ => False) (Cv.below hb2) (fun _ _ _ h => h)
    obtain ⟨v', V3, hrun, sv', mv', at'⟩ := h2.sv.appendN hrs2.ra (by simp) (by simp) (by simp) cb
    rw [hv'] at hrun
    obtain ⟨pv2, cv2, hv2⟩ := sv'.shape
    have bw : Below w.heap.size w V2 := hbV.trans (hb2.mono hbV.size)
    rw [hv2] at hrun
    refine ⟨pv2, _, cv2, V3, hrun, v', [r], B, by rw [hv2], sv', RF.mv mv' (fun k hk e => (h.nB k hk).2 e) _ _ (RF.mv (E := fun _ => False) (Mv.below bw) (fun _ _ h => h) _ _ hr), fun _ h => .inl h, fun b hb' => ⟨?_, (h.nB b hb').1, fun e => ?_⟩, ?_, ?_, h2.newv (Nat.le_refl _) at'⟩
    · have := h.lo b hb'; have := bw.size; have := mv'.size; omega
    · rcases at' with s | ⟨k, s, hk⟩
      · exact (h.nB b hb').2 (s ▸ e)
      · rw [e] at s; injection s with s; have := h.lo b hb'; have := bw.size; omega
    · exact (Mv.below bw).trans' (mv'.mono fun k _ e => .inl e)
    · rcases at' with s | ⟨k, s, hk⟩
      · exact .inl s
      · exact .inr ⟨k, s, Nat.le_trans bw.size hk⟩
  rw [hv']
  clear h hb hr hB hv
  unfold qp slv at *
  go_enter Tryz.func71, Tryz.ntmps71
  go_wp2_with fail
  refine hC.out.mono ?_
  rintro e V ⟨rfl, hbV⟩
  have hUV := hidP (hU.out V hbV)
  clear hC hU hbV
  go_wp2_with fail
  refine hUV.out.mono ?_
  rintro e V2 ⟨rfl, pv2, nv2, cv2, V3, hrun, hj⟩
  have hjH := hidP hj
  clear hj hUV
  go_wp2_with (at_builtin; refine wpList_append_run rfl _ _ 123 rfl _ _ _ _ rfl rfl hrun ?_)
  go_ret
  rw [← hv']
  exact hjH.out
theorem join_push {nb : NB} {key : El → Int} (hB : Bf nb key) {q : Nat} {w : World} {B : Nat → Prop} {v : Value} {xs : List Rec} {F : List (Tr El)} {cnt psh : Int} (h : Qm nb w q B v xs F cnt psh) {m : Int} (hF : Fl key m F) {gb cb : Nat} {r : Rec} {y : Tr El} (hb : RS w gb 0 cb [r]) (hr : RF w B [r] [y]) (hy : y.k = .nil) (ngb : ∀ k, B k → k ≠ gb) (nq : q ≠ gb) (nv : nbk v ≠ some gb) :
    Calls Tryz.prog 71 #[qp q, v, slv gb 0 1 cb] w (JQ w q B v gb (joinL key F [y])) := by
  by_cases hF0 : F = []
  · subst hF0
    obtain rfl : xs = [] := List.eq_nil_of_length_eq_zero h.rf.len
    have e : joinL key [] [y] = [y] := rfl
    rw [e]
    exact join_none hB h hb hr
  · obtain ⟨g, o, c, rfl, hrs⟩ := h.slice hF0
    have hgb : gb ≠ g := fun e => nv (by rw [e]; rfl)
    have T : Two key w B xs F g o c [r] [y] gb 0 cb m (key y.v) := ⟨hrs, h.rf, hF, hF0, hb, hr, Fl.one (x := y) (by rw [hy]; trivial), by simp, fun k hk e => (h.nB k hk).2 (by rw [e]; rfl), ngb, h.lo, fun j _ _ s => hgb s.1, by have := h.len; omega, by simp⟩
    refine (join_any hB T h.c0 (fun e => h.nq (by rw [e]; rfl)) nq).mono ?_
    rintro e V ⟨g', o', c', xs', B', rfl, rs', rf', up, gr, lo, cv, at'⟩
    have hat : nbk (slv g' o' xs'.length c') = nbk (slv g o xs.length c) ∨ ∃ k, nbk (slv g' o' xs'.length c') = some k ∧ w.heap.size ≤ k := by
      rcases at' with s | s
      · exact .inl (by rw [s.1]; rfl)
      · exact .inr ⟨g', rfl, s.2.1⟩
    refine ⟨slv g' o' xs'.length c', xs', B', rfl, .inr ⟨g', o', c', rfl, rs'⟩, rf', gr, fun b hb' => ⟨lo b hb', ?_, ?_⟩, ?_, hat, h.newv (Nat.le_refl _) hat⟩
    · rcases gr b hb' with s | s
      · exact (h.nB b s).1
      · have := h.lt; omega
    · intro e
      have e' : g' = b := by injection e
      rcases at' with s | s
      · rcases gr b hb' with z | z
        · exact (h.nB b z).2 (by rw [← e', s.1]; rfl)
        · have := hrs.rm.lt; have := s.1; omega
      · exact s.2.2 (e' ▸ hb')
    · refine cv.mv.mono fun k _ s => ?_
      obtain ⟨j, s | s⟩ := s
      · exact .inl (by rw [s.1]; rfl)
      · exact .inr s.1
end Go.Proofs.YtjcdjkfnmobhkaaGreat.Qd
